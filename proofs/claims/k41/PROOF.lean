import PyProof.Rows.All
import Wide.All
import OpenK.AllK
import Wide.FinOn
import HandS.ForMost
import PyProof.ReprRoads
import HandS.Wide
import HandS.Style
import HandS.Evl
import HandS.Conv
import HandS.Replace
import PyProof.EqAt
import PyProof.NeKinds
import PyProof.AutoSeq1
import HandS.Star
import HandS.SortKw
import KE.DatumOrd
import KE.KDictPairs
import HandS.Zip
import HandS.More
import HandS.Walk
import HandS.Set
import HandS.SetBool
import HandS.SetKeys
import PyProof.Rows.SortStr
import HandS.Strs
import HandS.Flow
import HandS.Nested
import HandS.NestedK
import PyProof.DelItemList
import HandS.Dict
import HandS.DictComp
import HandS.Iter
import HandS.TupSets
import HandS.DictTup
import HandS.SetFor
import HandS.Keys
import KE.KDictSum
import KE.KSortTup
import PyProof.Rows.SortKeyStr
import HandS.NoneIn
import HandS.Call
import HandS.RevRange
import HandS.TupAny
import HandS.IsInst
import KE.GoesEnum
import HandS.EndTab
import KE.KNestM
import PySem.Challenge.RW_lookdone_k41_one_step_back
set_option Elab.async false
set_option linter.all false
set_option maxRecDepth 100000
set_option maxHeartbeats 4000000
namespace GR
open PySem PySem.Spec PyProof.Rows L2

/-! ### data that stands in the abstract heap -/
section
variable {X : Cx} {pins : List (Addr × Obj)} {σ : L2.St} {H : Hp} {s : Shared}
mutual
theorem nodict {K : PySem.W.Frag} : ∀ {v : V} {d : PyData}, Dp K H v d → d.hasDict = false
  | _, _, .non => by simp only [PyData.hasDict]
  | _, _, .bl b => by simp only [PyData.hasDict]
  | _, _, .int i => by simp only [PyData.hasDict]
  | _, _, .str x => by simp only [PyData.hasDict]
  | _, _, .lst _ q => by simp only [PyData.hasDict, nodicts q]
  | _, _, .tup _ q => by simp only [PyData.hasDict, nodicts q]
theorem nodicts {K : PySem.W.Frag} : ∀ {vs : List V} {ds : List PyData}, DpAll K H vs ds → PyData.hasDictAll ds = false
  | _, _, .nil => by simp only [PyData.hasDictAll]
  | _, _, .cons h q => by simp only [PyData.hasDictAll, nodict h, nodicts q, Bool.or_self]
end

/-- repr of a list or a tuple of data -/
def rRepr (X : Cx) : List V → Hp → VK → Prop := fun xs H Q => ∃ (a : Addr) (d : PyData), xs = [.ref a] ∧ Dp X.K H (.ref a) d ∧ d.showable = true ∧ d.depth ≤ 60 ∧ d.shown.length ≤ sizeLine ∧ Q (.str d.shown) H
theorem call_reprD {k : Nat} (hg : X.A.guards = some []) (hr : Room k X.A) : CallR X (.builtin "repr") (rRepr X) := by
  intro pins s σ H xs us Q I r h
  obtain ⟨a, d, rfl, hd, hs, hdep, hz, q⟩ := h
  obtain ⟨u, rfl, rv⟩ := vals1 r
  obtain rfl : u = Value.ref a := rv
  obtain ⟨as, hR⟩ := Dp.reads I d _ _ hd rfl
  have hu := hr.units
  exact repr_of_reads' hR hs (PyData.noDict_hsm (nodict hd)) hg (by omega) (fun _ _ e => e) (fun h' u tk hk => ⟨.str d.shown, H, I.kept hk, ⟨_, rfl⟩, q⟩) hz
end

/-! ### defs that show things: a promise kept wherever nothing is being shown -/
structure FnG (P : Program) (w : World) (K : PySem.W.Frag) (mg : Str → Option Value) (base : Heap) (CX : CXT) (k : Nat) (f : Addr) (fd : FuncData) (ps : List Str) (sp : Sp) : Prop where
  size : ∀ vs H Q E, sp vs H Q E → vs.length = ps.length
  go : ∀ (A : Around) (outer : List Env) (s : Shared) (H : Hp) (args : Args) (us : List Value) (vs : List V) (Q : VK) (E : XK),
    A.guards = some [] → Room k A → Env0 P w K mg base A outer s H → BindsTo s fd args (ps.zip us) → Vals vs us → sp vs H Q E →
    codeAny (model P w) A (.call (.ref f) args) (CR CX outer P w H s Q E) s

section
variable {P : Program} {w : World} {K : PySem.W.Frag} {mg : Str → Option Value} {base : Heap}
theorem FnG.of {CX : CXT} {k : Nat} {f : Addr} {fd : FuncData} {ps : List Str} {sp : Sp} (F : FnOk P w K mg base CX k f fd ps sp) : FnG P w K mg base CX k f fd ps sp :=
  ⟨F.len, fun A outer s H args us vs Q E _ => F.run A outer s H args us vs Q E⟩

/-- a def by its body, where nothing is being shown -/
theorem ok_g {x qual : Str} {st : Stmt} {f : Addr} {fd : FuncData} {N ps : List Str} {k : Nat} {sp : Sp} (F : Fun K x qual st f fd) (S : FnScope N ps (defScope st)) (size : ∀ vs H Q E, sp vs H Q E → vs.length = ps.length)
    (body : ∀ (cdv : Value) (A : Around) (outer : List Env) (s : Shared) (H : Hp) (vs : List V) (Q : VK) (E : XK), A.guards = some [] → Room k (A.deeper (envOfC qual (defScope st) s.heap.objs.size f cdv)) → sp vs H Q E →
      ∃ t, PSs (cxOf CX0 P w K mg base N qual (defScope st) f cdv A outer s H E).nox (defBody st) t ∧ t { nx := fun _ H' => Q .non H', rt := Q } (start N vs) H) : FnG P w K mg base CX0 (k + 1) f fd ps sp := by
  obtain ⟨oc, od, kV, doc, pm, an, cdv, ct, osl, rfl, lk, hcd⟩ := F.ex
  constructor
  · exact size
  intro A outer s H args us vs Q E gA room e0 bnd rel hsp
  have inK : K.In s.heap := e0.mod.kin.keeps (fun b o q => (e0.bs b o q).1)
  have nolim := e0.mod.nolimit.keeps (fun b o q => (e0.bs b o q).1)
  obtain ⟨t, ht, hq⟩ := body cdv A outer s H vs Q E gA (room.deeper _) hsp
  refine codeAny_call_function room.depth (inK f _ lk) rfl S.co S.gen rfl (PySem.W.codeRec_of inK hcd) (bnd _ _ _ _ ?_)
  refine wpAny_newFunctionEnv_cells S.kind ?par (fun env he s1 inC => ?run)
  case par =>
    rintro ⟨n, v⟩ hy
    rcases S.par n (List.of_mem_zip hy).1 with q | q
    · exact Or.inl q
    · exact Or.inr ⟨q, PySem.W.cellsFrom_some _ _ _ (Or.inl q)⟩
  case run =>
    cases he
    refine And.intro (nolim.keeps inC.toInCall.keep) (codeAny_func ?_)
    have I0 := inv_start (CX := CX0) (P := P) (w := w) (K := K) (mg := mg) (base := base) (E := E) S room.hd e0 (size _ _ _ _ hsp) rel inC
    refine wpAny_mono (ht.nox.run [] s1 (start N vs) H _ I0 hq) ?_ (fun _ _ z => z)
    rintro fl s' hs
    have close : ∀ (σ' : L2.St) (H' : Hp) (v : V) (u : Value), Inv (cxOf CX0 P w K mg base N qual (defScope st) f cdv A outer s H E) [] σ' H' s' → RelV v u → Q v H' → CE outer P w H s Q u s' := by
      intro σ' H' v u J rv q
      exact ⟨v, H', J.os, J.bare, J.base, J.hok, rv, q⟩
    cases fl
    case ret u => obtain ⟨v, σ', H', J, rv, q⟩ := hs; exact close _ _ _ _ J rv q
    case next => obtain ⟨σ', H', J, q⟩ := hs; exact close _ _ V.non Value.none J rfl q
    case brk => obtain ⟨_, _, _, q⟩ := hs; exact q.elim
    case cont => obtain ⟨_, _, _, q⟩ := hs; exact q.elim
end

section
variable {X : Cx} {CX : CXT} {k : Nat} {f : Addr} {fd : FuncData} {ps : List Str} {sp : Sp} {E : XK} {x : Str} {p pos : Pos} {e : Expr} {es : List Expr} {t : TA}
/-- its call -/
theorem pe_callG (F : FnG X.prog X.w X.K X.mg X.base CX k f fd ps sp) (hg : X.A.guards = some []) (hr : Room k X.A) (gx : Gl X x) (hm : X.mg x = some (.ref f)) (hk : PySem.W.keepIn X.K (.ref f) = true) (hb : Binds X.K fd ps []) (hx : Passes CX X E)
    (ha : PA X (e :: es) t) (hdb : (x == ("__debug__" : Str)) = false := by decide) (he : starEach (e :: es) X.env = (false, eval e X.env) :: starEach es X.env := by rfl) (hpl : (backTo pos (starEach es X.env)).any (·.1) = false := by rfl) :
    PE X (.Call (.Name x p) (e :: es) [] pos) (tCall sp [] E t) := by
  constructor
  intro pins s σ H Q I h
  refine wpAny_Call_Name_kw (ld_glob I gx hm (PySem.W.callWith_K (h₀ := X.base) I.ok.mod.kin hk (thn (ha.run pos pins s σ H _ I h) ?_) he hpl) hdb)
  rintro us s1 ⟨vs, H1, I1, r, q⟩
  refine ⟨I1.kIn, ?_⟩
  have q' : sp vs H1 Q E := by simpa using q
  have hl : us.length = ps.length := by
    rw [← r.length]
    exact F.size _ _ _ _ q'
  have hB := hb s1 us I1.kIn (by simpa using hl)
  rw [List.append_nil] at hB
  refine wpAny_call (codeAny_mono (F.go X.A X.stack s1 H1 ⟨us, []⟩ us vs Q E hg hr I1.env0 hB r q') ?_)
  rintro (er | fl) s2 hq
  · exact hx pins σ H1 s1 er s2 I1 hq
  · cases fl
    case ret u => exact I1.after hq
    case next => exact hq.elim
    case brk => exact hq.elim
    case cont => exact hq.elim
end

/-- a comprehension without a test -/
theorem yes_then {σ : L2.St} {H : Hp} {A B : Hp → Prop} (h : A H) : tYes σ H (fun b H3 => if b = true then A H3 else B H3) := by
  show (if true = true then A H else B H)
  rw [if_pos rfl]
  exact h

/-! ### the law's own call -/
/-- the abstract heap in which the script alone is tracked, as it stands -/
def scriptHp (a : Addr) (o : Obj) (xs : List V) : Hp := fun b => if b = a then some (.frz o (.lst xs)) else none
theorem scriptHp_at {a : Addr} {o : Obj} {xs : List V} : scriptHp a o xs a = some (.frz o (.lst xs)) := if_pos rfl
theorem scriptHp_some {a b : Addr} {o : Obj} {xs : List V} {u : HO} (h : scriptHp a o xs b = some u) : b = a ∧ u = .frz o (.lst xs) := by
  unfold scriptHp at h
  split at h
  · rename_i e
    exact ⟨e, (Option.some.inj h).symm⟩
  · cases h

theorem ns_hid {h : Heap} {H : Hp} {b : Addr} {m : Str → Option Value} (q : h.Ns b m) (hb : H b = none) : (hidT h H).Ns b m := by
  obtain ⟨o, es, ep, e, r⟩ := q
  exact ⟨o, es, ep, hidT_get e hb, r⟩

theorem law_callG {P : Program} {w : World} {K : PySem.W.Frag} {mg mb : Str → Option Value} {k : Nat} {fa a : Addr} {fd : FuncData} {x : Str} {sp : Sp} {s₁ : Shared} {vs : List Value} {ns : List Int}
    (KX : K.In s₁.heap) (hns : s₁.heap.Ns mainGlobals mg) (hb : s₁.heap.Ns builtinsNs mb) (hbb : ∀ x : Str, x ≠ "__name__" → mb x = bootBuiltins x) (hlim : s₁.heap.NoLimit) (hg : s₁.gens = #[])
    (ha : s₁.heap.get? a = some { cls := .type "list", data := .seq vs.toArray }) (hi : IntsAre vs ns) (hl : ns.length ≤ sizeLine) (hr : Room k callerA)
    (F : ∀ base : Heap, K.In base → base.Ns mainGlobals mg → FnG P w K mg base CX0 k fa fd [x] sp) (hbind : ∀ (s : Shared) (u : Value), BindsTo s fd ⟨[u], []⟩ [(x, u)])
    (hsp : ∀ H : Hp, Only H → SqL K H a (ns.map V.int) → sp [.ref a] H (fun v _ => v = .bl true) fun _ _ _ => False) :
    codeAny (model P w) callerA (.call (.ref fa) ⟨[.ref a], []⟩) (fun r s' => r = .ok (.ret (.bool true)) ∧ OldK s₁.heap s'.heap ∧ s'.os = s₁.os ∧ AllBare s'.gens) s₁ := by
  have main : ∀ H : Hp, Only H → SqL K H a (ns.map V.int) → HOk P w H s₁.heap → (∀ b u, H b = some u → b = a ∧ K.lookup a = none) →
      codeAny (model P w) callerA (.call (.ref fa) ⟨[.ref a], []⟩) (fun r s' => r = .ok (.ret (.bool true)) ∧ OldK s₁.heap s'.heap ∧ s'.os = s₁.os ∧ AllBare s'.gens) s₁ := by
    intro H only seq ok one
    have free : ∀ b, (∀ o n, s₁.heap.get? b = some o → o.data ≠ .seq vs.toArray n) → H b = none := by
      intro b nb
      cases q : H b with
      | none => rfl
      | some u =>
        obtain ⟨rfl, _⟩ := one b u q
        exact absurd rfl (nb _ _ ha)
    have freeD : ∀ {b : Addr} {m : Str → Option Value}, s₁.heap.Ns b m → H b = none := by
      rintro b m ⟨o, es, ep, e, d, _⟩
      refine free b fun o' n e' d' => ?_
      rw [e] at e'
      cases e'
      rw [d] at d'
      cases d'
    have inB : K.In (hidT s₁.heap H) := by
      intro b o e
      refine hidT_get (KX b o e) ?_
      cases q : H b with
      | none => rfl
      | some u =>
        obtain ⟨rfl, z⟩ := one b u q
        rw [z] at e
        cases e
    have gB := ns_hid hns (freeD hns)
    have md : Mod K mg (hidT s₁.heap H) := by
      refine ⟨inB, gB, ⟨mb, ns_hid hb (freeD hb), hbb⟩, ?_⟩
      obtain ⟨mc, h1, h2⟩ := hlim
      exact ⟨mc, ns_hid h1 (freeD h1), h2⟩
    have start0 : Env0 P w K mg (hidT s₁.heap H) callerA [] s₁ H := by
      constructor
      · rfl
      · exact md
      · exact fun b o e => of_hidT e
      · exact Nat.le_of_eq (hidT_size _ _)
      · trivial
      · intro b hb
        exact absurd (show b ∈ ([] : List Addr) from hb) (by simp)
      · exact ok
      · exact .of_eq hg
    have run := (F _ inB gB).go callerA [] s₁ H ⟨[.ref a], []⟩ [.ref a] [.ref a] (fun v _ => v = .bl true) (fun _ _ _ => False) rfl hr start0 (hbind s₁ (.ref a)) (.cons rfl .nil) (hsp H only seq)
    refine codeAny_mono run ?_
    rintro (er | fl) s' h
    · exact False.elim h
    cases fl with
    | next => exact False.elim h
    | brk => exact False.elim h
    | cont => exact False.elim h
    | ret u =>
      obtain ⟨v, H', os, bare, un, ok', rv, q⟩ := h
      cases (show v = .bl true from q)
      cases (show u = Value.bool true from rv)
      refine ⟨rfl, OldK.of_keep ?_, os, bare⟩
      intro b o e
      cases z : H b with
      | none => exact un.keep b o e z (fun m => absurd (show b ∈ ([] : List Addr) from m) (by simp)) (by simp)
      | some u =>
        rcases only b with z' | ⟨ob, xs, z'⟩
        · rw [z] at z'
          cases z'
        · have e1 := (ok b _ z').1
          have e2 := (ok' b _ (un.frzs b ob _ z')).1
          rw [e] at e1
          rw [e1]
          exact e2
  have rv := vals_ints hi
  cases hk : K.lookup a with
  | some o =>
    have e := KX a o hk
    rw [ha] at e
    cases e
    refine main (fun _ => none) (fun _ => .inl rfl) (.inr ⟨_, vs.toArray, _, hk, rfl, rfl, rfl, ?_, by simpa using rv⟩) ?_ ?_
    · rw [List.size_toArray, hi.length]
      exact hl
    · intro b u z
      cases z
    · intro b u z
      cases z
  | none =>
    refine main (scriptHp a { cls := .type "list", data := .seq vs.toArray } (ns.map V.int)) ?_ (.inl (.inr ⟨_, scriptHp_at⟩)) ?_ ?_
    · intro b
      cases z : scriptHp a { cls := .type "list", data := .seq vs.toArray } (ns.map V.int) b with
      | none => exact .inl rfl
      | some u => exact .inr ⟨_, _, by rw [(scriptHp_some z).2]⟩
    · intro b u z
      obtain ⟨rfl, rfl⟩ := scriptHp_some z
      refine ⟨ha, ?_, vs, _, rv, ha⟩
      rw [List.length_map]
      exact hl
    · intro b u z
      exact ⟨(scriptHp_some z).1, hk⟩

theorem walk_g {l : PySem.W.OpenLaw} {n k : Nat} {q : Program} {loose : List Str} {XP : (Str → Option Value) → Heap → Prop} {YP : World → Heap → Prop} {d : DefRec} {K : Params → PySem.W.Frag} {sp : PySem.W.Frag → Sp} {x : Str}
    (hn : l.most = some n) (hn2 : n ≤ sizeLine) (hdf : d.params.defaults = []) (hr : Room k callerA)
    (hY : ∀ (w : World) (h : Heap), YP w h → (K w.params).In h)
    (F : ∀ (w : World) (mg : Str → Option Value) (fa : Addr) (h : Heap), (K w.params).In h → h.Ns mainGlobals mg → mg d.name = some (.ref fa) →
      ∃ fd : FuncData, (∀ (s : Shared) (u : Value), BindsTo s fd ⟨[u], []⟩ [(x, u)]) ∧
        ∀ base : Heap, (K w.params).In base → base.Ns mainGlobals mg → FnG l.prog w (K w.params) mg base CX0 k fa fd [x] (sp (K w.params)))
    (hsp : ∀ (K : PySem.W.Frag) (H : Hp) (a : Addr) (ns : List Int), ns.length ≤ n → Only H → SqL K H a (ns.map V.int) → sp K [.ref a] H (fun v _ => v = .bl true) fun _ _ _ => False) :
    PySem.W.WalkO q loose XP YP l.row.toRowW d [] (fun f vs => PySem.call f vs) := by
  apply Att.attach_call hn hdf
  intro w s₀ s₁ mg mb fa o pm cd doc a vs ns G Y ho hd hcd hmg hobj hints hlen hg
  obtain ⟨fd, bnd, keeps⟩ := F w mg fa _ (hY w _ Y) G.T.g hmg
  exact law_callG (hY w _ Y) G.T.g G.T.b G.T.builtins G.T.nolimit hg hobj hints (Nat.le_trans hlen hn2) hr keeps bnd (fun H => hsp _ H a ns hlen)
end GR

namespace L41
open PySem PySem.Spec PyProof.Rows L2 GR
abbrev LIM : Int := 1000000000000000000
def topS (i : Nat) : Stmt := PySem.Challenge.pw_lookdone_k41_one_step_back.main.body.getD i (.Pass ⟨0, 0, 0, 0⟩)
theorem same_upd {H : Hp} {p : Addr} {o : HO} (h : H p = none) : Same H (upd H p o) := fun b x e => by
  rw [upd_ne (ne_of_none e h)]
  exact e
theorem le2 : 2 ≤ sizeLine := by decide
theorem at0 {xs : List V} {v : V} : atI (v :: xs) 0 = some v := atI_nat (j := 0) rfl
theorem at1 {xs : List V} {v u : V} : atI (u :: v :: xs) 1 = some v := atI_nat (j := 1) rfl
theorem at2 {xs : List V} {v u t : V} : atI (t :: u :: v :: xs) 2 = some v := atI_nat (j := 2) rfl
theorem at3 {xs : List V} {v u t s : V} : atI (s :: t :: u :: v :: xs) 3 = some v := atI_nat (j := 3) rfl
/-! ### the law's deck -/
/-- the deck at d: the cells at c, a number, the count of draws, at most N -/
def Deck (H : Hp) (d c : Addr) (N : Int) : Prop := ∃ (cells : List Int) (m n : Int), H d = some (.lst [.ref c, .int m, .int n]) ∧ H c = some (.lst (cells.map V.int)) ∧ cells.length ≤ 63 ∧ 0 ≤ n ∧ n ≤ N
theorem Deck.ne {H : Hp} {d c : Addr} {N : Int} (h : Deck H d c N) : c ≠ d := by
  obtain ⟨cells, m, n, h1, h2, _⟩ := h
  rintro rfl
  rw [h1] at h2
  have e := HO.lst.inj (Option.some.inj h2)
  cases cells with
  | nil => cases e
  | cons x r =>
    have := (List.cons.inj e).1
    cases this
theorem Deck.mono {H : Hp} {d c : Addr} {N M : Int} (h : Deck H d c N) (hm : N ≤ M) : Deck H d c M := by
  obtain ⟨cells, m, n, h1, h2, h3, h4, h5⟩ := h
  exact ⟨cells, m, n, h1, h2, h3, h4, Int.le_trans h5 hm⟩
/-- all but the deck is as it was -/
def Keep (d c : Addr) (H H' : Hp) : Prop := ∀ b o, b ≠ d → b ≠ c → H b = some o → H' b = some o
theorem Keep.refl {d c : Addr} {H : Hp} : Keep d c H H := fun _ _ _ _ e => e
theorem Keep.trans {d c : Addr} {H H1 H2 : Hp} (a : Keep d c H H1) (b : Keep d c H1 H2) : Keep d c H H2 := fun x o h1 h2 e => b x o h1 h2 (a x o h1 h2 e)
theorem Keep.of {d c : Addr} {H H' : Hp} (s : Same H H') : Keep d c H H' := fun b o _ _ e => s b o e
theorem Deck.same {H H' : Hp} {d c : Addr} {N : Int} (h : Deck H d c N) (s : Same H H') : Deck H' d c N := by
  obtain ⟨cells, m, n, h1, h2, h3⟩ := h
  exact ⟨cells, m, n, s _ _ h1, s _ _ h2, h3⟩
/-- a tuple, a list that is not the deck's stays -/
theorem Keep.tup {d c p : Addr} {H H' : Hp} {N : Int} {xs : List V} (s : Keep d c H H') (D : Deck H d c N) (h : H p = some (.tup xs)) : H' p = some (.tup xs) := by
  obtain ⟨cells, m, n, h1, h2, _⟩ := D
  exact s p _ (ne_of h h1 (fun z => by cases z)) (ne_of h h2 (fun z => by cases z)) h
theorem dp_ints {K : PySem.W.Frag} {H : Hp} : ∀ ns : List Int, DpAll K H (ns.map V.int) (ns.map PyData.int)
  | [] => .nil
  | n :: ns => .cons (.int n) (dp_ints ns)
theorem lay_ints : ∀ ns : List Int, PyData.canLayAll0 (ns.map PyData.int) = true
  | [] => by simp only [List.map_nil, PyData.canLayAll0]
  | n :: ns => by simp only [List.map_cons, PyData.canLayAll0, PyData.canLay0, lay_ints ns, Bool.and_self]
theorem depth_ints : ∀ ns : List Int, PyData.depthAll (ns.map PyData.int) ≤ 1
  | [] => by simp only [List.map_nil, PyData.depthAll]; omega
  | n :: ns => by
    have := depth_ints ns
    simp only [List.map_cons, PyData.depthAll, PyData.depth]
    omega
theorem shaped_ints (ns : List Int) : SeqAt.shaped (.list (ns.map PyData.int)) = true := by
  have := depth_ints ns
  unfold SeqAt.shaped
  rw [Bool.and_eq_true]
  refine ⟨by simp only [PyData.canLay0, lay_ints], decide_eq_true ?_⟩
  simp only [PyData.depth]
  omega
theorem neq_nil : ∀ ns : List Int, (!PyData.eqv (.list (ns.map PyData.int)) (.list [])) = !ns.isEmpty
  | [] => by simp only [List.map_nil, PyData.eqv, PyData.eqvAll, List.isEmpty_nil]
  | n :: ns => by simp only [List.map_cons, PyData.eqv, PyData.eqvAll, List.isEmpty_cons]

def num1 (z n : Int) : Int := (z % 2147483629 + 7919 * (n + 1) * (n + 1) + 31) * 48271 % 2147483647
theorem num1_rng (z n : Int) : -(2 ^ 64) < num1 z n ∧ num1 z n < 2 ^ 64 := by
  unfold num1
  omega
def num2 (x n : Int) : Int := (x * x + 69621 * x + (n + 1)) % 2147483587
theorem num2_rng (x n : Int) : -(2 ^ 64) < num2 x n ∧ num2 x n < 2 ^ 64 := by
  unfold num2
  omega

section
variable {P : Program} {w : World} {K : PySem.W.Frag} {mg : Str → Option Value} {base : Heap}
abbrev s_law_draw : Stmt := topS 41
theorem sc_law_draw : FnScope ["_law_deck_here", "_law_most", "_law_cell_here", "_law_number_here"] ["_law_deck_here", "_law_most"] (defScope s_law_draw) := ⟨rfl, rfl, rfl, by decide +kernel, rfl, by decide +kernel, by decide +kernel⟩
def sp_draw : Sp := fun vs H Q _ => ∃ (d c : Addr) (N most : Int), vs = [.ref d, .int most] ∧ Deck H d c N ∧ N < 2 ^ 60 ∧ 0 < most ∧ most < 2 ^ 100 ∧
  ∀ H' r, Keep d c H H' → Deck H' d c (N + 1) → 0 ≤ r → r < most → Q (.int r) H'
theorem ok_draw {f : Addr} {fd : FuncData} {k : Nat} (F : Fun K "_law_draw" "_law_draw" s_law_draw f fd) :
    FnOk P w K mg base CX0 (k + 1) f fd ["_law_deck_here", "_law_most"] sp_draw := by
  have nd := sc_law_draw.nd
  refine F.ok sc_law_draw (fun vs H Q E h => ?_) (fun cdv A outer s H vs Q E hr h => ?_)
  · obtain ⟨d, c, N, most, rfl, _⟩ := h
    rfl
  obtain ⟨d, c, N, most, rfl, D, hN, hm0, hm1, q⟩ := h
  have hcd := D.ne
  obtain ⟨cells, m, n, hd, hc, hlen, hn0, hn1⟩ := D
  refine ⟨_, (pss_cons (ps_asg (pe_op op_add (pe_ix ix_list (pv 0) pe_int (fun _ _ => rfl)) pe_int) (pg_sub (pv 0) pe_int set_list))
      (pss_cons (ps_set (i := 2) nd rfl (.inl rfl) (pe_ix ix_list (pv 0) pe_int (fun _ _ => rfl)))
      (Evl.pss_cut (ps_if (pt_cmpR (op_neD hr.units) (pe_ix ix_list (pv 0) pe_int (fun _ _ => rfl)) (pe_lst pa_nil) (nomark _))
      (pss_cons (ps_set (i := 2) nd rfl (.inl rfl) (pe_bm0 PySem.F.plainAttrs_list PySem.F.slot_list_pop PySem.F.type_list_pop mt_pop (pe_ix ix_list (pv 0) pe_int (fun _ _ => rfl))))
        (pss_one (ps_if (pt_cmpR op_ge (pv 2) (pe_op op_pow pe_int pe_int) (nomark _))
        (pss_cons (ps_expr (pe_bm PySem.F.plainAttrs_list PySem.F.slot_list_append PySem.F.type_list_append mt_append (pe_ix ix_list (pv 0) pe_int (fun _ _ => rfl)) (pa_cons (pe_op op_fdivW (pv 2) (pv 1)) pa_nil)))
          (pss_one (ps_ret (pe_op op_mod (pv 2) (pv 1)))))
        pss_nil)))
      pss_nil)
      (pss_cons (ps_set (i := 3) nd rfl (.inl rfl) (pe_op op_add (pe_op op_add (pe_op op_mod (pv 2) pe_int) (pe_op op_mul (pe_op op_mul pe_int (pe_ix ix_list (pv 0) pe_int (fun _ _ => rfl))) (pe_ix ix_list (pv 0) pe_int (fun _ _ => rfl)))) pe_int))
      (pss_cons (ps_set (i := 3) nd rfl (.inl rfl) (pe_op op_mod (pe_op op_mul (pv 3) pe_int) pe_int))
      (pss_cons (ps_set (i := 3) nd rfl (.inl rfl) (pe_op op_mod (pe_op op_add (pe_op op_add (pe_op op_mul (pv 3) (pv 3)) (pe_op op_mul pe_int (pv 3))) (pe_ix ix_list (pv 0) pe_int (fun _ _ => rfl))) pe_int))
      (pss_one (ps_ret (pe_op op_mod (pe_op op_fdivW (pe_op op_mod (pe_op op_mul (pv 3) (pe_op op_add (pe_op op_fdivW (pv 3) pe_int) pe_int)) pe_int) pe_int) (pv 1)))))))))), ?_⟩
  refine ⟨.ref d, rfl, d, _, 2, _, rfl, rfl, .inl (.inl hd), at2, _, _, rfl, rfl, .ref d, rfl, d, _, 2, 2, rfl, rfl, hd, rfl, ?_⟩
  -- the deck with one draw more
  have h1d : upd H d (.lst [.ref c, .int m, .int (n + 1)]) d = some (.lst [.ref c, .int m, .int (n + 1)]) := upd_same
  have h1c : upd H d (.lst [.ref c, .int m, .int (n + 1)]) c = some (.lst (cells.map V.int)) := by
    rw [upd_ne hcd]
    exact hc
  have k1 : Keep d c H (upd H d (.lst [.ref c, .int m, .int (n + 1)])) := fun b o nb _ e => by
    rw [upd_ne nb]
    exact e
  refine ⟨.ref d, rfl, d, _, 1, _, rfl, rfl, .inl (.inl h1d), at1, ?_⟩
  have wd : CDivW 0 most := wide_div hm0 (b := 100) (by omega) (by decide) (by decide)
  refine ⟨fun σ' H' => ∃ (z : Int) (cells' : List Int), σ' = [some (.ref d), some (.int most), some (.int z), none] ∧ Keep d c H H' ∧ H' d = some (.lst [.ref c, .int m, .int (n + 1)]) ∧ H' c = some (.lst (cells'.map V.int)) ∧ cells'.length ≤ 63, ?_, ?_⟩
  · refine ⟨.ref d, rfl, d, _, 0, _, rfl, rfl, .inl (.inl h1d), at0, Nat.zero_le _, fun e ne => ?_⟩
    have s2 : Same (upd H d (.lst [.ref c, .int m, .int (n + 1)])) (upd (upd H d (.lst [.ref c, .int m, .int (n + 1)])) e (.lst [])) := same_upd ne
    have h2d := s2 _ _ h1d
    have h2c := s2 _ _ h1c
    have k2 := k1.trans (Keep.of s2)
    refine ⟨_, _, .lst (.inl (.inl h2c)) (dp_ints cells), .lst (.inl (.inl upd_same)) .nil, shaped_ints cells, shaped_ints [], _, rfl, ?_⟩
    rw [neq_nil]
    cases hcs : cells with
    | nil => exact iteF ⟨m, cells, rfl, k2, h2d, h2c, hlen⟩
    | cons x0 r0 =>
      refine iteT ?_
      have hne : cells ≠ [] := by
        rw [hcs]
        exact List.cons_ne_nil _ _
      have hlast : (cells.map V.int)[(cells.map V.int).length - 1]? = some (.int (cells.getLast hne)) := by
        rw [List.length_map, List.getElem?_map, ← List.getLast?_eq_getElem?, List.getLast?_eq_getLast hne]
        rfl
      refine ⟨.ref d, rfl, d, _, 0, _, rfl, rfl, .inl (.inl h2d), at0, .inl ⟨rfl, _, .inl (.inl h2c)⟩, c, _, _, rfl, rfl, h2c, hlast, ?_⟩
      have hdrop : (cells.map V.int).dropLast = cells.dropLast.map V.int := by rw [List.map_dropLast]
      rw [hdrop]
      have h3d : upd (upd (upd H d (.lst [.ref c, .int m, .int (n + 1)])) e (.lst [])) c (.lst (cells.dropLast.map V.int)) d = some (.lst [.ref c, .int m, .int (n + 1)]) := by
        rw [upd_ne hcd.symm]
        exact h2d
      have h3c : upd (upd (upd H d (.lst [.ref c, .int m, .int (n + 1)])) e (.lst [])) c (.lst (cells.dropLast.map V.int)) c = some (.lst (cells.dropLast.map V.int)) := upd_same
      have k3 : Keep d c H (upd (upd (upd H d (.lst [.ref c, .int m, .int (n + 1)])) e (.lst [])) c (.lst (cells.dropLast.map V.int))) := fun b o n1 n2 e1 => by
        rw [upd_ne n2]
        exact k2 b o n1 n2 e1
      have l3 : cells.dropLast.length + 1 ≤ 63 := by
        rw [List.length_dropLast, hcs, List.length_cons]
        rw [hcs, List.length_cons] at hlen
        omega
      generalize cells.getLast hne = z
      refine ⟨.int z, rfl, _, _, rfl, rfl, ⟨by decide, by decide, by decide⟩, _, _, rfl, rfl, _, rfl, ite2 (fun e5 => ?_) (fun e5 => ?_)⟩
      · refine ⟨.ref d, rfl, d, _, 0, _, rfl, rfl, .inl (.inl h3d), at0, .inl ⟨rfl, _, .inl (.inl h3c)⟩, .int z, rfl, .int most, rfl, z, most, rfl, rfl, wd, c, _, _, rfl, rfl, h3c, ?_, ?_⟩
        · rw [List.length_map]
          exact small1000 (by omega)
        · refine ⟨.int z, rfl, .int most, rfl, z, most, rfl, rfl, hm0, ?_⟩
          refine q _ _ ?_ ?_ (Int.emod_nonneg _ (by omega)) (Int.emod_lt_of_pos _ hm0)
          · intro b o n1 n2 e1
            rw [upd_ne n2]
            exact k3 b o n1 n2 e1
          · refine ⟨cells.dropLast ++ [z / most], m, n + 1, ?_, ?_, ?_, by omega, by omega⟩
            · rw [upd_ne hcd.symm]
              exact h3d
            · rw [upd_same, List.map_append]
              rfl
            · rw [List.length_append, List.length_singleton]
              exact l3
      · exact ⟨z, cells.dropLast, rfl, k3, h3d, h3c, by omega⟩
  · rintro σ' H' ⟨z, cells', rfl, kk, h5d, h5c, hl5⟩
    have hn2 : -(2 ^ 64) < n + 1 ∧ n + 1 < 2 ^ 64 := by omega
    refine ⟨.int z, rfl, z, 2147483629, rfl, rfl, (show (0 : Int) < 2147483629 by decide), .ref d, rfl, d, _, 2, _, rfl, rfl, .inl (.inl h5d), at2, 7919, n + 1, rfl, rfl, .inl ⟨by decide, by decide⟩, .ref d, rfl, d, _, 2, _, rfl, rfl, .inl (.inl h5d), at2, 7919 * (n + 1), n + 1, rfl, rfl, .inr hn2, _, _, rfl, rfl, _, _, rfl, rfl, _, rfl, _, 48271, rfl, rfl, .inr ⟨by decide, by decide⟩, _, 2147483647, rfl, rfl, (show (0 : Int) < 2147483647 by decide), ?_⟩
    have b1 := num1_rng z n
    refine ⟨.int (num1 z n), rfl, .int (num1 z n), rfl, num1 z n, num1 z n, rfl, rfl, .inl b1, .int (num1 z n), rfl, 69621, num1 z n, rfl, rfl, .inr b1, _, _, rfl, rfl, .ref d, rfl, d, _, 2, _, rfl, rfl, .inl (.inl h5d), at2, _, _, rfl, rfl, _, 2147483587, rfl, rfl, (show (0 : Int) < 2147483587 by decide), ?_⟩
    have b2 := num2_rng (num1 z n) n
    refine ⟨.int (num2 (num1 z n) n), rfl, .int (num2 (num1 z n) n), rfl, num2 (num1 z n) n, 5, rfl, rfl, ⟨by decide, by decide⟩, _, _, rfl, rfl, num2 (num1 z n) n, _, rfl, rfl, .inl b2, _, 2147483579, rfl, rfl, (show (0 : Int) < 2147483579 by decide), _, 64, rfl, rfl, ⟨by decide, by decide⟩, .int most, rfl, _, most, rfl, rfl, hm0, ?_⟩
    exact q _ _ kk ⟨cells', m, n + 1, h5d, h5c, hl5, by omega, by omega⟩ (Int.emod_nonneg _ (by omega)) (Int.emod_lt_of_pos _ hm0)
end
theorem Keep.seq {K : PySem.W.Frag} {d c a : Addr} {H H' : Hp} {xs : List V} (s : Keep d c H H') (h : SqL K H a xs) (h1 : a ≠ d) (h2 : a ≠ c) : SqL K H' a xs := by
  rcases h with (h | ⟨o, h⟩) | h
  · exact .inl (.inl (s _ _ h1 h2 h))
  · exact .inl (.inr ⟨o, s _ _ h1 h2 h⟩)
  · exact .inr h
theorem cut63 (ns : List Int) : ∃ ms : List Int, cutV (ns.map V.int) none (some 63) = ms.map V.int ∧ ms.length ≤ 63 := by
  refine ⟨ns.take (min 63 ns.length), ?_, ?_⟩
  · unfold cutV
    rw [HT.sIx_none, show HT.sIx (ns.map V.int).length (ns.map V.int).length (some 63) = min 63 (ns.map V.int).length from HT.sIx_nat _ _ 63, List.drop_zero, List.map_take, List.length_map, Nat.sub_zero]
  · rw [List.length_take]
    omega
theorem small_le {n : Nat} (h : n ≤ 1000) : n ≤ sizeLine := Nat.le_of_lt (small1000 h)
section
variable {P : Program} {w : World} {K : PySem.W.Frag} {mg : Str → Option Value} {base : Heap}
abbrev s_law_deck : Stmt := topS 40
theorem sc_law_deck : FnScope ["_law_script", "_law_cells"] ["_law_script"] (defScope s_law_deck) := ⟨rfl, rfl, rfl, by decide +kernel, rfl, by decide +kernel, by decide +kernel⟩
def sp_deck (K : PySem.W.Frag) : Sp := fun vs H Q _ => ∃ (a : Addr) (ns : List Int), vs = [.ref a] ∧ SqL K H a (ns.map V.int) ∧ ∀ H' d c, Same H H' → H d = none → Deck H' d c 0 → Q (.ref d) H'
theorem ok_deck {f : Addr} {fd : FuncData} {k : Nat} (F : Fun K "_law_deck" "_law_deck" s_law_deck f fd) (mlist : mg "list" = none) (msum : mg "sum" = none) (mlen : mg "len" = none) :
    FnOk P w K mg base CX0 (k + 1) f fd ["_law_script"] (sp_deck K) := by
  have nd := sc_law_deck.nd
  refine F.ok sc_law_deck (fun vs H Q E h => ?_) (fun cdv A outer s H vs Q E hr h => ?_)
  · obtain ⟨a, ns, rfl, _⟩ := h
    rfl
  obtain ⟨a, ns, rfl, hS, q⟩ := h
  obtain ⟨ms, hms, hl⟩ := cut63 ns
  refine ⟨_, (pss_cons (ps_set (i := 1) nd rfl (.inl rfl) (pe_callTy call_list_of (by rfl) mlist boot_list (pa_cons (pe_slice sl_list (pv 0) po_none (po_some pe_int)) pa_nil)))
      (pss_one (ps_ret (pe_lst (pa_cons (pe_revL (pv 1)) (pa_cons (pe_op op_add (pe_op op_mod (pe_callB (cr_sum rfl) (by rfl) msum boot_sum (pa_cons (pv 1) pa_nil)) pe_int) (pe_op op_mul pe_int (pe_callB call_len_seq (by rfl) mlen PySem.boot_len (pa_cons (pv 1) pa_nil)))) (pa_cons pe_int pa_nil))))))), ?_⟩
  refine ⟨.ref a, rfl, 63, rfl, a, _, rfl, hS, fun p np => ?_⟩
  rw [hms]
  have s1 : Same H (upd H p (.lst (ms.map V.int))) := same_upd np
  refine ⟨p, _, rfl, .inl (.inl (.inl upd_same)), fun l nl => ?_⟩
  have s2 := same_upd (o := .lst (ms.map V.int)) nl
  have hl2 : SqL K (upd (upd H p (.lst (ms.map V.int))) l (.lst (ms.map V.int))) l (ms.map V.int) := .inl (.inl upd_same)
  refine ⟨.ref l, rfl, l, _, rfl, hl2, fun c nc => ?_⟩
  have s3 := same_upd (o := .lst (ms.map V.int).reverse) nc
  refine ⟨.ref l, rfl, l, ms, rfl, s3.seq hl2, _, 2147483629, rfl, rfl, (show (0 : Int) < 2147483629 by decide), .ref l, rfl, l, _, rfl, .inl (s3.seq hl2), 48271, _, rfl, rfl, .inl ⟨by decide, by decide⟩, _, _, rfl, rfl, small_le (show 3 ≤ 1000 by decide), fun d nd' => ?_⟩
  refine q _ d c ((s1.trans s2).trans (s3.trans (same_upd nd'))) ?_ ?_
  · exact s1.free (s2.free (s3.free nd'))
  · refine ⟨ms.reverse, _, 0, upd_same, ?_, ?_, Int.le_refl 0, Int.le_refl 0⟩
    · have : c ≠ d := ne_of_none (show upd _ c _ c = _ from upd_same) nd'
      rw [upd_ne this, upd_same, List.map_reverse]
    · rw [List.length_reverse]
      exact hl
end
theorem Deck.new {H : Hp} {d c a : Addr} {N : Int} (D : Deck H d c N) (na : H a = none) : a ≠ d ∧ a ≠ c := by
  obtain ⟨cells, m, n, h1, h2, _⟩ := D
  exact ⟨(ne_of_none h1 na).symm, (ne_of_none h2 na).symm⟩
theorem Keep.free {d c a : Addr} {H H' : Hp} (s : Keep d c H H') (na : H' a = none) (h1 : a ≠ d) (h2 : a ≠ c) : H a = none := by
  cases q : H a with
  | none => rfl
  | some o =>
    rw [s a o h1 h2 q] at na
    cases na
end L41

namespace L41
open PySem PySem.Spec PyProof.Rows L2 GR
abbrev L26 : Str := "abcdefghijklmnopqrstuvwxyz"
def sgn (c : Nat) : Str := ⟨#[c]⟩
theorem l26_len : L26.length = 26 := by decide
theorem l26_at : ∀ k, k < 26 → L26.cps.toList[k]? = some (97 + k) := by decide
theorem l26_occ : ∀ k, k < 26 → Builtin.Str.occurrences L26 (sgn (97 + k)) 0 L26.length 1 = [k] := by decide +kernel
def Low (c : Nat) : Prop := 97 ≤ c ∧ c ≤ 122
/-- the words that are no names -/
def barred : List Str := ["key", "if", "at", "count", "sum", "most", "first", "let", "need", "put", "each", "tell"]
/-- a name -/
def Nm (z : Str) : Prop := 1 ≤ z.cps.toList.length ∧ z.cps.toList.length ≤ 8 ∧ (∀ c, c ∈ z.cps.toList → Low c) ∧ z ∉ barred
theorem nm_lit {z : Str} (h : (decide (1 ≤ z.cps.toList.length) && decide (z.cps.toList.length ≤ 8) && z.cps.toList.all (fun c => decide (97 ≤ c) && decide (c ≤ 122)) && decide (z ∉ barred)) = true) : Nm z := by
  simp only [Bool.and_eq_true, decide_eq_true_eq, List.all_eq_true] at h
  obtain ⟨⟨⟨h1, h2⟩, h3⟩, h4⟩ := h
  exact ⟨h1, h2, fun c hc => h3 c hc, h4⟩
abbrev L4 : Str := "qzjx"
abbrev heads : List Nat := [113, 122, 106, 120]
theorem l4_len : L4.length = 4 := by decide
theorem l4_at : ∀ k, k < 4 → ∃ c, L4.cps.toList[k]? = some c ∧ c ∈ heads := by
  intro k hk
  match k, hk with
  | 0, _ => exact ⟨113, by decide, by decide⟩
  | 1, _ => exact ⟨122, by decide, by decide⟩
  | 2, _ => exact ⟨106, by decide, by decide⟩
  | 3, _ => exact ⟨120, by decide, by decide⟩
theorem barred_w : ∀ z, z ∈ barred → 2 ≤ z.cps.toList.length ∧ ∀ c, c ∈ heads → z.cps.toList.head? ≠ some c := by decide
theorem barred_q : ∀ z, z ∈ barred → z.cps.toList.head? ≠ some 113 := by decide
/-- the text of single signs, joined -/
theorem join_signs : ∀ cs : List Nat, (Txt.join Str.empty (cs.map sgn)).cps.toList = cs := by
  intro cs
  have hj : ∀ cs : List Nat, TL.joinL [] (cs.map fun c => [c]) = cs := by
    intro cs
    induction cs with
    | nil => rfl
    | cons a r ih =>
      cases r with
      | nil => rfl
      | cons b r =>
        show [a] ++ ([] ++ TL.joinL [] ((b :: r).map fun c => [c])) = a :: b :: r
        rw [ih]
        rfl
  have := TL.tl_join Str.empty (cs.map sgn)
  rw [List.map_map] at this
  rw [TL.join_eq]
  exact this.trans (hj cs)
section
variable {P : Program} {w : World} {K : PySem.W.Frag} {mg : Str → Option Value} {base : Heap}
abbrev s_law_pick : Stmt := topS 42
theorem sc_law_pick : FnScope ["_law_deck_here", "_law_some"] ["_law_deck_here", "_law_some"] (defScope s_law_pick) := ⟨rfl, rfl, rfl, by decide +kernel, rfl, by decide +kernel, by decide +kernel⟩
/-- a pick from a list, or from the letters -/
def sp_pick (K : PySem.W.Frag) : Sp := fun vs H Q _ =>
  (∃ (d c a : Addr) (N : Int) (xs : List V), vs = [.ref d, .ref a] ∧ Deck H d c N ∧ N < 2 ^ 60 ∧ SqL K H a xs ∧ xs ≠ [] ∧ xs.length ≤ 1000 ∧ a ≠ d ∧ a ≠ c ∧ ∀ H' v, Keep d c H H' → Deck H' d c (N + 1) → v ∈ xs → Q v H') ∨
  (∃ (d c : Addr) (N : Int), vs = [.ref d, .str L26] ∧ Deck H d c N ∧ N < 2 ^ 60 ∧ ∀ H' k, Keep d c H H' → Deck H' d c (N + 1) → k < 26 → Q (.str (sgn (97 + k))) H') ∨
  (∃ (d c : Addr) (N : Int), vs = [.ref d, .str L4] ∧ Deck H d c N ∧ N < 2 ^ 60 ∧ ∀ H' k, Keep d c H H' → Deck H' d c (N + 1) → k ∈ heads → Q (.str (sgn k)) H')
theorem ok_pick {f f_law_draw : Addr} {fd fd_law_draw : FuncData} {k : Nat} (F : Fun K "_law_pick" "_law_pick" s_law_pick f fd) (G_law_draw : FnOk P w K mg base CX0 k f_law_draw fd_law_draw ["_law_deck_here", "_law_most"] sp_draw)
    (g_law_draw : mg "_law_draw" = some (.ref f_law_draw)) (K_law_draw : PySem.W.keepIn K (.ref f_law_draw) = true) (b_law_draw : Binds K fd_law_draw ["_law_deck_here", "_law_most"] []) (mlen : mg "len" = none) :
    FnOk P w K mg base CX0 (k + 1) f fd ["_law_deck_here", "_law_some"] (sp_pick K) := by
  have nd := sc_law_pick.nd
  refine F.ok sc_law_pick (fun vs H Q E h => ?_) (fun cdv A outer s H vs Q E hr h => ?_)
  · rcases h with ⟨d, c, a, N, xs, rfl, _⟩ | ⟨d, c, N, rfl, _⟩ | ⟨d, c, N, rfl, _⟩ <;> rfl
  refine ⟨_, (pss_one (ps_ret (pe_ix ix_seq (pv 1) (pe_call G_law_draw hr (by rfl) g_law_draw K_law_draw b_law_draw .nil pass0 (pa_cons (pv 0) (pa_cons (pe_callB call_len (by rfl) mlen PySem.boot_len (pa_cons (pv 1) pa_nil)) pa_nil))) (fun _ _ => rfl)))), ?_⟩
  rcases h with ⟨d, c, a, N, xs, rfl, D, hN, hS, hne, hlen, had, hac, q⟩ | ⟨d, c, N, rfl, D, hN, q⟩ | ⟨d, c, N, rfl, D, hN, q⟩
  · have hpos : 0 < xs.length := List.length_pos_iff.mpr hne
    refine ⟨.ref a, rfl, .ref d, rfl, .ref a, rfl, .ref a, xs.length, rfl, .inl ⟨xs, hS, rfl⟩, d, c, N, (xs.length : Int), rfl, D, hN, by omega, by omega, fun H' r kp D' r0 r1 => ?_⟩
    obtain ⟨j, rfl⟩ := Int.eq_ofNat_of_zero_le r0
    have hj : j < xs.length := by omega
    exact .inl ⟨a, xs, j, xs[j], rfl, rfl, kp.seq hS had hac, atI_nat (List.getElem?_eq_getElem hj), q H' _ kp D' (List.getElem_mem hj)⟩
  · refine ⟨.str L26, rfl, .ref d, rfl, .str L26, rfl, .str L26, 26, rfl, ⟨by rw [l26_len]; decide, l26_len.symm⟩, d, c, N, 26, rfl, D, hN, by decide, by decide, fun H' r kp D' r0 r1 => ?_⟩
    obtain ⟨j, rfl⟩ := Int.eq_ofNat_of_zero_le r0
    have hj : j < 26 := by omega
    exact .inr (.inr ⟨L26, j, 97 + j, rfl, rfl, by rw [l26_len]; decide, atI_nat (l26_at j hj), q H' j kp D' hj⟩)
  · refine ⟨.str L4, rfl, .ref d, rfl, .str L4, rfl, .str L4, 4, rfl, ⟨by rw [l4_len]; decide, l4_len.symm⟩, d, c, N, 4, rfl, D, hN, by decide, by decide, fun H' r kp D' r0 r1 => ?_⟩
    obtain ⟨j, rfl⟩ := Int.eq_ofNat_of_zero_le r0
    have hj : j < 4 := by omega
    obtain ⟨x, hx, hh⟩ := l4_at j hj
    exact .inr (.inr ⟨L4, j, x, rfl, rfl, by rw [l4_len]; decide, atI_nat hx, q H' x kp D' hh⟩)
end
end L41

namespace L41
open PySem PySem.Spec PyProof.Rows L2 GR
/-- lists of texts of single signs -/
def sg (cs : List Nat) : List V := (cs.map sgn).map V.str
theorem sg_length (cs : List Nat) : (sg cs).length = cs.length := by
  unfold sg
  rw [List.length_map, List.length_map]
theorem sg_snoc (cs : List Nat) (c : Nat) : sg cs ++ [V.str (sgn c)] = sg (cs ++ [c]) := by
  unfold sg
  simp
theorem sg_set (cs : List Nat) (i c : Nat) : (sg cs).set i (V.str (sgn c)) = sg (cs.set i c) := by
  unfold sg
  rw [List.map_set, List.map_set]
theorem sg_get {cs : List Nat} {i c : Nat} (h : cs[i]? = some c) : (sg cs)[i]? = some (V.str (sgn c)) := by
  unfold sg
  rw [List.getElem?_map, List.getElem?_map, h]
  rfl
theorem nm_signs {z : Str} {cs : List Nat} (hz : z.cps.toList = 113 :: cs) (h0 : cs.length ≤ 7) (hl : ∀ c, c ∈ cs → Low c) : Nm z := by
  refine ⟨by rw [hz]; simp, by rw [hz, List.length_cons]; omega, ?_, fun hb => ?_⟩
  · rw [hz]
    intro c hc
    rcases List.mem_cons.mp hc with rfl | hc
    · exact ⟨by decide, by decide⟩
    · exact hl c hc
  · have := barred_q z hb
    rw [hz] at this
    exact this rfl
theorem sgn_length (cs : List Nat) : ((cs.map sgn).map (·.length)).sum = cs.length := by
  induction cs with
  | nil => rfl
  | cons c r ih =>
    rw [List.map_cons, List.map_cons, List.sum_cons, ih, List.length_cons]
    show 1 + r.length = r.length + 1
    omega
section
variable {P : Program} {w : World} {K : PySem.W.Frag} {mg : Str → Option Value} {base : Heap}
abbrev s_law_names : Stmt := topS 43
abbrev N_names : List Str := ["_law_deck_here", "_law_many", "_law_letters", "_law_k", "_law_word", "_law_at", "_law_first", "_law_found"]
theorem sc_law_names : FnScope N_names ["_law_deck_here", "_law_many"] (defScope s_law_names) := ⟨rfl, rfl, rfl, by decide +kernel, rfl, by decide +kernel, by decide +kernel⟩
/-- a new list of names -/
def sp_names : Sp := fun vs H Q _ => ∃ (d c : Addr) (N : Int) (many : Nat), vs = [.ref d, .int (many : Int)] ∧ Deck H d c N ∧ N < 2 ^ 55 ∧ many ≤ 100 ∧
  ∀ H' p (zs : List Str), Keep d c H H' → Deck H' d c (N + 20) → H p = none → H' p = some (.lst (zs.map V.str)) → zs.length = many → (∀ z, z ∈ zs → Nm z) → Q (.ref p) H'
theorem ok_names {f f_law_draw f_law_pick : Addr} {fd fd_law_draw fd_law_pick : FuncData} {k : Nat} (F : Fun K "_law_names" "_law_names" s_law_names f fd) (G_law_draw : FnOk P w K mg base CX0 k f_law_draw fd_law_draw ["_law_deck_here", "_law_most"] sp_draw)
    (g_law_draw : mg "_law_draw" = some (.ref f_law_draw)) (K_law_draw : PySem.W.keepIn K (.ref f_law_draw) = true) (b_law_draw : Binds K fd_law_draw ["_law_deck_here", "_law_most"] [])
    (G_law_pick : FnOk P w K mg base CX0 k f_law_pick fd_law_pick ["_law_deck_here", "_law_some"] (sp_pick K))
    (g_law_pick : mg "_law_pick" = some (.ref f_law_pick)) (K_law_pick : PySem.W.keepIn K (.ref f_law_pick) = true) (b_law_pick : Binds K fd_law_pick ["_law_deck_here", "_law_some"] [])
    (mrange : mg "range" = none) (mlen : mg "len" = none) : FnOk P w K mg base CX0 (k + 1) f fd ["_law_deck_here", "_law_many"] sp_names := by
  have nd := sc_law_names.nd
  refine F.ok sc_law_names (fun vs H Q E h => ?_) (fun cdv A outer s H vs Q E hr h => ?_)
  · obtain ⟨d, c, N, many, rfl, _⟩ := h
    rfl
  obtain ⟨d, c, N, many, rfl, D, hN, hmany, q⟩ := h
  refine ⟨_, (pss_cons (ps_set (i := 2) nd rfl (.inr rfl) pe_str)
      (Evl.pss_cut (ps_set (i := 4) nd rfl (.inl rfl) (pe_op op_cat (pe_lst (pa_cons pe_str pa_nil)) (pe_lc (own := [("_law_k", 3)]) rfl nd (pi_range1 rfl mrange (pa_cons (pe_op op_add pe_int (pe_call G_law_draw hr (by rfl) g_law_draw K_law_draw b_law_draw .nil pass0 (pa_cons (pv 0) (pa_cons pe_int pa_nil)))) pa_nil)) (blkOk_by (N := N_names) (sc := defScope s_law_names) (by decide +kernel)) (fun _ _ _ _ _ => (pg_name (i := 3) nd rfl (Or.inl rfl))) (fun _ _ _ _ _ => pts_nil)
          (te := tCall (sp_pick K) [] E0 (tCons (tVar 0) (tCons (tVar 2) tNil)))
          (fun _ _ _ _ _ => (pe_call G_law_pick hr (by rfl) g_law_pick K_law_pick b_law_pick .nil pass0 (pa_cons (pv 0) (pa_cons (pv 2) pa_nil)))))))
      (pss_cons (ps_set (i := 5) nd rfl (.inl rfl) (pe_op op_add pe_int (pe_call G_law_draw hr (by rfl) g_law_draw K_law_draw b_law_draw .nil pass0 (pa_cons (pv 0) (pa_cons (pe_op op_sub (pe_callB call_len_seq (by rfl) mlen PySem.boot_len (pa_cons (pv 4) pa_nil)) pe_int) pa_nil)))))
      (pss_cons (ps_set (i := 6) nd rfl (.inl rfl) (pe_bm PySem.F.plainAttrs_str PySem.F.slot_str_index PySem.F.type_str_index mt_sindex (pv 2) (pa_cons (pe_ix ix_list (pv 4) (pv 5) (fun _ _ => rfl)) pa_nil)))
      (pss_cons (ps_set (i := 7) nd rfl (.inl rfl) (pe_lst pa_nil))
      (pss_cons (ps_for PassesOwn.never rfl (pi_range1 rfl mrange (pa_cons (pv 1) pa_nil)) (pg_name (i := 3) nd rfl (Or.inl rfl))
      (pss_cons (ps_asg (pe_ix ix_str (pv 2) (pe_op op_mod (pe_op op_add (pv 6) (pv 3)) pe_int) (fun _ _ => rfl)) (pg_sub (pv 4) (pv 5) set_list))
        (pss_one (ps_expr (pe_bm PySem.F.plainAttrs_list PySem.F.slot_list_append PySem.F.type_list_append mt_append (pv 7) (pa_cons (pe_join pe_str (pv 4)) pa_nil))))))
      (pss_one (ps_ret (pv 7))))))))), ?_⟩
  -- word = ['q'] + [..]
  refine ⟨fun σ' H' => ∃ wd cs, σ' = [some (.ref d), some (.int (many : Int)), some (.str L26), none, some (.ref wd), none, none, none] ∧ Keep d c H H' ∧ Deck H' d c (N + 8) ∧ H wd = none ∧ wd ≠ d ∧ wd ≠ c ∧ H' wd = some (.lst (sg (113 :: cs))) ∧ 1 ≤ cs.length ∧ cs.length ≤ 7 ∧ (∀ x, x ∈ cs → Low x), ?_, ?_⟩
  · refine ⟨Nat.le_of_lt (small1000 (show 1 ≤ 1000 by decide)), fun l nl => ?_⟩
    have sl := same_upd (o := .lst [.str "q"]) nl
    have D1 := D.same sl
    have hl := D.new nl
    have hl1 : upd H l (.lst [.str "q"]) l = some (.lst [.str "q"]) := upd_same
    refine ⟨.ref d, rfl, d, c, N, 7, rfl, D1, by omega, by decide, by decide, fun H1 r k1 D2 r0 r1 => ?_⟩
    obtain ⟨n, rfl⟩ := Int.eq_ofNat_of_zero_le r0
    refine ⟨1, (n : Int), rfl, rfl, 1 + (n : Int), rfl, by omega, by omega, fun B nB => ?_⟩
    have hB := D2.new nB
    have nlB : l ≠ B := ne_of_none (k1 _ _ hl.1 hl.2 hl1) nB
    have e1n : (1 + (n : Int)).toNat = n + 1 := by omega
    rw [e1n]
    refine lc_range (n := n + 1) (fun i H' => ∃ cs, cs.length = i ∧ (∀ x, x ∈ cs → Low x) ∧ H' B = some (.lst (sg cs)) ∧ (∀ b o, b ≠ d → b ≠ c → b ≠ B → H1 b = some o → H' b = some o) ∧ Deck H' d c (N + 1 + (i : Int))) ?_ ?_ ?_
    · refine ⟨[], rfl, fun x hx => (nomatch hx), upd_same, fun b o _ _ nb e => by rw [upd_ne nb]; exact e, ?_⟩
      exact (D2.same (same_upd nB)).mono (by omega)
    · rintro i H3 hi ⟨cs, hlen, hlow, hB3, k3, D3⟩
      refine ⟨rfl, yes_then ⟨.ref d, rfl, .str L26, rfl, .inr (.inl ⟨d, c, _, rfl, D3, by omega, fun H4 j k4 D4 hj => ?_⟩)⟩⟩
      refine ⟨_, k4 _ _ hB.1 hB.2 hB3, ?_, cs ++ [97 + j], ?_, ?_, ?_, ?_, ?_⟩
      · rw [sg_length]
        exact small1000 (by omega)
      · rw [List.length_append, hlen]
        rfl
      · intro x hx
        rcases List.mem_append.mp hx with hx | hx
        · exact hlow x hx
        · rw [List.mem_singleton.mp hx]
          unfold Low
          omega
      · rw [upd_same, sg_snoc]
      · intro b o n1 n2 n3 e
        rw [upd_ne n3]
        exact k4 _ _ n1 n2 (k3 b o n1 n2 n3 e)
      · obtain ⟨cells, m, x, g1, g2, g3, g4, g5⟩ := D4
        refine ⟨cells, m, x, ?_, ?_, g3, g4, by omega⟩
        · rw [upd_ne hB.1.symm]
          exact g1
        · rw [upd_ne hB.2.symm]
          exact g2
    · rintro H3 ⟨cs, hlen, hlow, hB3, k3, D3⟩
      have hl3 := k3 _ _ hl.1 hl.2 nlB (k1 _ _ hl.1 hl.2 hl1)
      refine ⟨l, B, _, _, rfl, rfl, hl3, hB3, ?_, fun wd nwd => ?_⟩
      · rw [sg_length]
        exact small_le (show 1 + cs.length ≤ 1000 by omega)
      have hw := D3.new nwd
      have sw := same_upd (o := .lst ([.str "q"] ++ sg cs)) nwd
      refine ⟨wd, cs, rfl, ?_, (D3.same sw).mono (by omega), ?_, hw.1, hw.2, ?_, by omega, by omega, hlow⟩
      · intro b o n1 n2 e
        refine sw _ _ (k3 b o n1 n2 ?_ (k1 _ _ n1 n2 (sl _ _ e)))
        exact ne_of_none (k1 _ _ n1 n2 (sl _ _ e)) nB
      · cases e : H wd with
        | none => rfl
        | some o =>
          have nb := ne_of_none (k1 _ _ hw.1 hw.2 (sl _ _ e)) nB
          rw [k3 wd o hw.1 hw.2 nb (k1 _ _ hw.1 hw.2 (sl _ _ e))] at nwd
          cases nwd
      · exact upd_same
  rintro σ' H1 ⟨wd, cs, rfl, k1, D1, nwd, hwd, hwc, hw1, c1, c7, hlow⟩
  -- at, first
  refine ⟨.ref d, rfl, .ref wd, rfl, wd, _, rfl, .inl (.inl (.inl hw1)), _, 1, rfl, rfl, d, c, N + 8, ((sg (113 :: cs)).length : Int) - 1, rfl, D1, by omega, ?_, ?_, fun H2 r k2 D2 r0 r1 => ⟨_, _, rfl, rfl, ?_⟩⟩
  · rw [sg_length, List.length_cons]
    omega
  · rw [sg_length, List.length_cons]
    omega
  rw [sg_length, List.length_cons] at r1
  obtain ⟨j, rfl⟩ := Int.eq_ofNat_of_zero_le r0
  have hj : j < cs.length := by omega
  have hw2 := k2 _ _ hwd hwc hw1
  have hcj : (113 :: cs)[j + 1]? = some cs[j] := by
    rw [List.getElem?_cons_succ]
    exact List.getElem?_eq_getElem hj
  have hlj := hlow _ (List.getElem_mem hj)
  obtain ⟨m, hm, hm26⟩ : ∃ m, cs[j] = 97 + m ∧ m < 26 := ⟨cs[j] - 97, by unfold Low at hlj; omega, by unfold Low at hlj; omega⟩
  refine ⟨.str L26, rfl, rfl, .ref wd, rfl, .int (1 + (j : Int)), rfl, wd, _, 1 + (j : Int), .str (sgn (97 + m)), rfl, rfl, .inl (.inl hw2), at_of (j := j + 1) (by omega) (by rw [sg_get hcj, hm]), L26, sgn (97 + m), m, [], rfl, rfl, l26_occ m hm26, ?_⟩
  refine ⟨Nat.zero_le _, fun fo nfo => ?_⟩
  have sf := same_upd (o := .lst []) nfo
  have hfo := D2.new nfo
  have nwf : wd ≠ fo := ne_of_none hw2 nfo
  refine ⟨.int (many : Int), rfl, (many : Int), rfl, by omega, by omega, ?_⟩
  have emany : ((many : Int)).toNat = many := by omega
  rw [emany]
  refine for_range (n := many) (fun i σ H' => ∃ (y3 : Option V) (cs' : List Nat) (zs : List Str), σ = [some (.ref d), some (.int (many : Int)), some (.str L26), y3, some (.ref wd), some (.int (1 + (j : Int))), some (.int (m : Int)), some (.ref fo)] ∧ H' wd = some (.lst (sg (113 :: cs'))) ∧ cs'.length = cs.length ∧ (∀ x, x ∈ cs' → Low x) ∧
      H' fo = some (.lst (zs.map V.str)) ∧ zs.length = i ∧ (∀ z, z ∈ zs → Nm z) ∧ (∀ b o, b ≠ wd → b ≠ fo → H2 b = some o → H' b = some o)) ?_ ?_ ?_
  · refine ⟨none, cs, [], rfl, ?_, rfl, hlow, upd_same, rfl, fun z hz => (nomatch hz), fun b o n1 n2 e => by rw [upd_ne n2]; exact e⟩
    rw [upd_ne nwf]
    exact hw2
  · rintro i σ H3 hi ⟨y3, cs', zs, rfl, hw3, hl3, hlow3, hf3, hz3, hnm3, k3⟩
    have hmod : ∃ t : Nat, ((m : Int) + (0 + (i : Int))) % 26 = (t : Int) ∧ t < 26 := ⟨(m + i) % 26, by omega, Nat.mod_lt _ (by decide)⟩
    obtain ⟨t, ht, ht26⟩ := hmod
    refine ⟨.str L26, rfl, .int (m : Int), rfl, .int (0 + (i : Int)), rfl, _, _, rfl, rfl, _, 26, rfl, rfl, (show (0 : Int) < 26 by decide), L26, (t : Int), 97 + t, rfl, congrArg V.int ht, by rw [l26_len]; decide, atI_nat (l26_at t ht26), ?_⟩
    have hix : ixN (sg (113 :: cs')).length (1 + (j : Int)) = some (j + 1) := by
      unfold ixN
      rw [if_pos (by omega), if_pos (by rw [sg_length, List.length_cons]; omega)]
      exact congrArg some (by omega)
    refine ⟨.ref wd, rfl, .int (1 + (j : Int)), rfl, wd, _, 1 + (j : Int), j + 1, rfl, rfl, hw3, hix, ?_⟩
    have hset : (sg (113 :: cs')).set (j + 1) (.str (sgn (97 + t))) = sg (113 :: cs'.set j (97 + t)) := sg_set _ _ _
    have hw4 : upd H3 wd (.lst ((sg (113 :: cs')).set (j + 1) (.str (sgn (97 + t))))) wd = some (.lst (sg (113 :: cs'.set j (97 + t)))) := by rw [upd_same, hset]
    have hf4 : upd H3 wd (.lst ((sg (113 :: cs')).set (j + 1) (.str (sgn (97 + t))))) fo = some (.lst (zs.map V.str)) := by
      rw [upd_ne nwf.symm]
      exact hf3
    refine ⟨.ref fo, rfl, .inl ⟨rfl, _, .inl (.inl hf4)⟩, ⟨_, rfl⟩, .ref wd, rfl, Str.empty, wd, (113 :: cs'.set j (97 + t)).map sgn, rfl, rfl, .inl (.inl (.inl hw4)), ?_, fo, _, _, rfl, rfl, hf4, ?_, ?_⟩
    · rw [sgn_length, List.length_map, List.length_cons, List.length_set]
      show _ + _ * 0 ≤ _
      omega
    · rw [List.length_map]
      exact small1000 (by omega)
    · refine ⟨_, cs'.set j (97 + t), zs ++ [Txt.join Str.empty ((113 :: cs'.set j (97 + t)).map sgn)], rfl, ?_, by rw [List.length_set]; exact hl3, ?_, ?_, by rw [List.length_append, hz3]; rfl, ?_, ?_⟩
      · rw [upd_ne nwf]
        exact hw4
      · intro x hx
        rcases List.mem_or_eq_of_mem_set hx with hx | rfl
        · exact hlow3 x hx
        · unfold Low
          omega
      · rw [upd_same, List.map_append]
        rfl
      · intro z hz
        rcases List.mem_append.mp hz with hz | hz
        · exact hnm3 z hz
        · rw [List.mem_singleton.mp hz]
          refine nm_signs (cs := cs'.set j (97 + t)) (join_signs _) (by rw [List.length_set]; omega) ?_
          intro x hx
          rcases List.mem_or_eq_of_mem_set hx with hx | rfl
          · exact hlow3 x hx
          · unfold Low
            omega
      · intro b o n1 n2 e
        rw [upd_ne n2, upd_ne n1]
        exact k3 b o n1 n2 e
  · rintro σ H3 ⟨y3, cs', zs, rfl, hw3, hl3, hlow3, hf3, hz3, hnm3, k3⟩
    have nHfo : H fo = none := (k1.trans k2).free nfo hfo.1 hfo.2
    refine ⟨.ref fo, rfl, q H3 fo zs ?_ ?_ nHfo hf3 hz3 hnm3⟩
    · intro b o n1 n2 e
      exact k3 b o (ne_of_none e nwd) (ne_of_none e nHfo) (k2 _ _ n1 n2 (k1 _ _ n1 n2 e))
    · obtain ⟨cells, mm, x, e1, e2, e3, e4, e5⟩ := D2
      exact ⟨cells, mm, x, k3 _ _ hwd.symm hfo.1.symm e1, k3 _ _ hwc.symm hfo.2.symm e2, e3, e4, by omega⟩
end
end L41

namespace L41
open PySem PySem.Spec PyProof.Rows L2 GR
theorem Deck.upd {H : Hp} {d c p : Addr} {N : Int} {o : HO} (D : Deck H d c N) (h1 : p ≠ d) (h2 : p ≠ c) : Deck (L2.upd H p o) d c N := by
  obtain ⟨cells, m, n, e1, e2, e3⟩ := D
  exact ⟨cells, m, n, by rw [upd_ne h1.symm]; exact e1, by rw [upd_ne h2.symm]; exact e2, e3⟩
def wD (tl cl nl kl : Addr) : List (Key × V) := [(.inr "tables", .ref tl), (.inr "columns", .ref cl), (.inr "names", .ref nl), (.inr "keys", .ref kl)]
theorem wD_t (tl cl nl kl : Addr) : valV (wD tl cl nl kl) (.inr "tables") = some (.ref tl) := valV_pos rfl
theorem wD_c (tl cl nl kl : Addr) : valV (wD tl cl nl kl) (.inr "columns") = some (.ref cl) := (valV_neg (show ¬ ((.inr "tables" : Key) = .inr "columns") by decide)).trans (valV_pos rfl)
theorem wD_n (tl cl nl kl : Addr) : valV (wD tl cl nl kl) (.inr "names") = some (.ref nl) := (valV_neg (show ¬ ((.inr "tables" : Key) = .inr "names") by decide)).trans ((valV_neg (show ¬ ((.inr "columns" : Key) = .inr "names") by decide)).trans (valV_pos rfl))
theorem wD_k (tl cl nl kl : Addr) : valV (wD tl cl nl kl) (.inr "keys") = some (.ref kl) := (valV_neg (show ¬ ((.inr "tables" : Key) = .inr "keys") by decide)).trans ((valV_neg (show ¬ ((.inr "columns" : Key) = .inr "keys") by decide)).trans ((valV_neg (show ¬ ((.inr "names" : Key) = .inr "keys") by decide)).trans (valV_pos rfl)))
/-- the world at u: lists of tables, columns, variables, keys -/
structure Wd (H : Hp) (d c u tl cl nl kl : Addr) (ts cs ns : List Str) (ks : List Int) : Prop where
  dct : H u = some (.dK (wD tl cl nl kl))
  ht : H tl = some (.lst (ts.map V.str))
  hc : H cl = some (.lst (cs.map V.str))
  hn : H nl = some (.lst (ns.map V.str))
  hk : H kl = some (.lst (ks.map V.int))
  t0 : tl ≠ d ∧ tl ≠ c
  c0 : cl ≠ d ∧ cl ≠ c
  n0 : nl ≠ d ∧ nl ≠ c
  k0 : kl ≠ d ∧ kl ≠ c
  u0 : u ≠ d ∧ u ≠ c
  lt : ts.length = 2
  lc : cs.length = 3
  ln : ns.length = 3
  lk : ks.length = 5
  at' : ∀ z, z ∈ ts → Nm z
  ac : ∀ z, z ∈ cs → Nm z
  an : ∀ z, z ∈ ns → Nm z
  ak : ∀ k, k ∈ ks → -2 ≤ k ∧ k ≤ 20
theorem Wd.keep {H H' : Hp} {d c u tl cl nl kl : Addr} {ts cs ns : List Str} {ks : List Int} (W : Wd H d c u tl cl nl kl ts cs ns ks) (k : Keep d c H H') : Wd H' d c u tl cl nl kl ts cs ns ks :=
  ⟨k _ _ W.u0.1 W.u0.2 W.dct, k _ _ W.t0.1 W.t0.2 W.ht, k _ _ W.c0.1 W.c0.2 W.hc, k _ _ W.n0.1 W.n0.2 W.hn, k _ _ W.k0.1 W.k0.2 W.hk, W.t0, W.c0, W.n0, W.k0, W.u0, W.lt, W.lc, W.ln, W.lk, W.at', W.ac, W.an, W.ak⟩
theorem in_nm : Nm "in" := nm_lit (by decide)
theorem cut_map (zs : List Str) (lo hi : Option Int) (a b : Nat) (h1 : HT.sIx zs.length 0 lo = a) (h2 : HT.sIx zs.length zs.length hi = b) : cutV (zs.map V.str) lo hi = ((zs.drop a).take (b - a)).map V.str := by
  unfold cutV
  rw [List.length_map, h1, h2, List.map_take, List.map_drop]
section
variable {P : Program} {w : World} {K : PySem.W.Frag} {mg : Str → Option Value} {base : Heap}
abbrev s_law_world : Stmt := topS 44
abbrev N_wd : List Str := ["_law_deck_here", "_law_names_here", "_law_keys", "_law_k"]
theorem sc_law_world : FnScope N_wd ["_law_deck_here"] (defScope s_law_world) := ⟨rfl, rfl, rfl, by decide +kernel, rfl, by decide +kernel, by decide +kernel⟩
def sp_world : Sp := fun vs H Q _ => ∃ (d c : Addr) (N : Int), vs = [.ref d] ∧ Deck H d c N ∧ N < 2 ^ 54 ∧
  ∀ H' u tl cl nl kl ts cs ns ks, Keep d c H H' → Deck H' d c (N + 30) → H u = none → Wd H' d c u tl cl nl kl ts cs ns ks → Q (.ref u) H'
theorem ok_world {f f_law_draw f_law_names : Addr} {fd fd_law_draw fd_law_names : FuncData} {k : Nat} (F : Fun K "_law_world" "_law_world" s_law_world f fd) (G_law_draw : FnOk P w K mg base CX0 k f_law_draw fd_law_draw ["_law_deck_here", "_law_most"] sp_draw)
    (g_law_draw : mg "_law_draw" = some (.ref f_law_draw)) (K_law_draw : PySem.W.keepIn K (.ref f_law_draw) = true) (b_law_draw : Binds K fd_law_draw ["_law_deck_here", "_law_most"] [])
    (G_law_names : FnOk P w K mg base CX0 k f_law_names fd_law_names ["_law_deck_here", "_law_many"] sp_names)
    (g_law_names : mg "_law_names" = some (.ref f_law_names)) (K_law_names : PySem.W.keepIn K (.ref f_law_names) = true) (b_law_names : Binds K fd_law_names ["_law_deck_here", "_law_many"] []) (mrange : mg "range" = none) : FnOk P w K mg base CX0 (k + 1) f fd ["_law_deck_here"] sp_world := by
  have nd := sc_law_world.nd
  refine F.ok sc_law_world (fun vs H Q E h => ?_) (fun cdv A outer s H vs Q E hr h => ?_)
  · obtain ⟨d, c, N, rfl, _⟩ := h
    rfl
  obtain ⟨d, c, N, rfl, D, hN, q⟩ := h
  refine ⟨_, (pss_cons (ps_set (i := 1) nd rfl (.inl rfl) (pe_call G_law_names hr (by rfl) g_law_names K_law_names b_law_names .nil pass0 (pa_cons (pv 0) (pa_cons pe_int pa_nil))))
      (Evl.pss_cut (ps_if (pt_cmpR op_eq (pe_call G_law_draw hr (by rfl) g_law_draw K_law_draw b_law_draw .nil pass0 (pa_cons (pv 0) (pa_cons pe_int pa_nil))) pe_int (nomark _))
      (pss_one (ps_asg (pe_ix ix_list (pv 1) pe_int (fun _ _ => rfl)) (pg_sub (pv 1) pe_int set_list)))
      pss_nil)
      (Evl.pss_cut (ps_setLc (i := 2) (own := [("_law_k", 3)]) (tt := tYes) (te := tOp (rI0 fun i j => .int (i + j)) (tOp (rI0 fun i j => .int (i - j)) (tCall sp_draw [] E0 (tCons (tVar 0) (tCons (tC (.int 9)) tNil))) (tC (.int 2))) (tOp (rI CMul fun i j => .int (i * j)) (tC (.int 3)) (tVar 3))) rfl nd rfl rfl (sw_true rfl rfl rfl (by decide +kernel)) (pi_range1 rfl mrange (pa_cons pe_int pa_nil)) (blkOk_by (N := N_wd) (sc := defScope s_law_world) (by decide +kernel)) (fun _ _ _ _ _ => (pg_name (i := 3) nd rfl (Or.inl rfl))) (fun _ _ _ _ _ => pts_nil) (fun _ _ _ _ _ => (pe_op op_add (pe_op op_sub (pe_call G_law_draw hr (by rfl) g_law_draw K_law_draw b_law_draw .nil pass0 (pa_cons (pv 0) (pa_cons pe_int pa_nil))) pe_int) (pe_op op_mul pe_int (pv 3)))))
      (pss_one (ps_ret (pe_disp (pps_cons pe_str (pe_slice sl_list (pv 1) po_none (po_some pe_int)) (pps_cons pe_str (pe_op op_cat (pe_slice sl_list (pv 1) (po_some pe_int) (po_some pe_int)) (pe_lst (pa_cons pe_str pa_nil))) (pps_cons pe_str (pe_slice sl_list (pv 1) (po_some pe_int) po_none) (pps_cons pe_str (pe_op op_cat (pv 2) (pe_lst (pa_cons pe_int (pa_cons pe_int (pa_cons pe_int pa_nil))))) pps_nil)))) (by decide) rfl (by simp) (by decide))))))), ?_⟩
  refine ⟨.ref d, rfl, d, c, N, 7, rfl, D, by omega, by decide, fun H1 p zs k1 D1 np hp hlen hnm => ?_⟩
  have hpn : p ≠ d ∧ p ≠ c := by
    obtain ⟨cells, m, n, h1, h2, _⟩ := D
    exact ⟨(ne_of_none h1 np).symm, (ne_of_none h2 np).symm⟩
  refine ⟨fun σ' H' => ∃ zs' : List Str, σ' = [some (.ref d), some (.ref p), none, none] ∧ Keep d c H H' ∧ Deck H' d c (N + 25) ∧ H' p = some (.lst (zs'.map V.str)) ∧ zs'.length = 7 ∧ ∀ z, z ∈ zs' → Nm z, ?_, ?_⟩
  · refine ⟨.ref d, rfl, d, c, _, 4, rfl, D1, by omega, by decide, by decide, fun H2 r k2 D2 r0 r1 => ⟨rfl, _, rfl, ite2 (fun e => ?_) (fun e => ?_)⟩⟩
    · have hp2 := k2 _ _ hpn.1 hpn.2 hp
      have h2 : (zs.map V.str)[2]? = some (.str (zs[2]'(by omega))) := by
        rw [List.getElem?_map, List.getElem?_eq_getElem (by omega)]
        rfl
      refine ⟨.ref p, rfl, p, _, 2, _, rfl, rfl, .inl (.inl hp2), atI_nat (j := 2) h2, .ref p, rfl, p, _, 0, 0, rfl, rfl, hp2, ?_, ?_⟩
      · unfold ixN
        rw [if_pos (by decide), List.length_map, hlen]
        rfl
      rw [← List.map_set]
      refine ⟨_, rfl, fun b o n1 n2 e => ?_, ?_, upd_same, by rw [List.length_set, hlen], fun z hz => ?_⟩
      · rw [upd_ne (ne_of_none e np)]
        exact k2 _ _ n1 n2 (k1 _ _ n1 n2 e)
      · exact (D2.upd hpn.1 hpn.2).mono (by omega)
      · rcases List.mem_or_eq_of_mem_set hz with h | rfl
        · exact hnm z h
        · exact hnm _ (List.getElem_mem _)
    · exact ⟨zs, rfl, k1.trans k2, D2.mono (by omega), k2 _ _ hpn.1 hpn.2 hp, hlen, hnm⟩
  rintro σ' H2 ⟨zs, rfl, k2, D2, hp2, hlen, hnm⟩
  clear k1 D1 hp
  refine ⟨fun σ' H' => ∃ (q2 : Addr) (y : Option V) (ks : List Int), σ' = [some (.ref d), some (.ref p), some (.ref q2), y] ∧ Keep d c H H' ∧ Deck H' d c (N + 28) ∧ H' p = some (.lst (zs.map V.str)) ∧ H' q2 = some (.lst (ks.map V.int)) ∧ ks.length = 2 ∧ ∀ k, k ∈ ks → -2 ≤ k ∧ k ≤ 20, ?_, ?_⟩
  · refine ⟨2, rfl, by decide, by decide, fun B nB => ?_⟩
    have hB := D2.new nB
    have sB := same_upd (o := .lst []) nB
    have npB : p ≠ B := ne_of_none hp2 nB
    refine lc_range (n := 2) (fun i H' => ∃ ks : List Int, ks.length = i ∧ (∀ k, k ∈ ks → -2 ≤ k ∧ k ≤ 20) ∧ H' B = some (.lst (ks.map V.int)) ∧ (∀ b o, b ≠ d → b ≠ c → b ≠ B → H2 b = some o → H' b = some o) ∧ Deck H' d c (N + 25 + (i : Int))) ?_ ?_ ?_
    · exact ⟨[], rfl, fun x hx => (nomatch hx), upd_same, fun b o _ _ nb e => by rw [upd_ne nb]; exact e, (D2.same sB).mono (by omega)⟩
    · rintro i H3 hi ⟨ks, hl, hks, hB3, k3, D3⟩
      refine ⟨rfl, yes_then ⟨.ref d, rfl, d, c, _, 9, rfl, D3, by omega, by decide, by decide, fun H4 r k4 D4 r0 r1 => ?_⟩⟩
      refine ⟨_, _, rfl, rfl, .int (0 + (i : Int)), rfl, _, _, rfl, rfl, .inl ⟨by decide, by decide⟩, _, _, rfl, rfl, ?_⟩
      have eM : (ks.map V.int) ++ [V.int (r - 2 + 3 * (0 + (i : Int)))] = (ks ++ [r - 2 + 3 * (0 + (i : Int))]).map V.int := by rw [List.map_append]; rfl
      refine ⟨_, k4 _ _ hB.1 hB.2 hB3, ?_, ks ++ [r - 2 + 3 * (0 + (i : Int))], ?_, ?_, ?_, ?_, ?_⟩
      · rw [List.length_map]
        exact small1000 (by omega)
      · rw [List.length_append, hl]
        rfl
      · intro k hk
        rcases List.mem_append.mp hk with hk | hk
        · exact hks k hk
        · rw [List.mem_singleton.mp hk]
          omega
      · rw [upd_same, eM]
      · intro b o n1 n2 n3 e
        rw [upd_ne n3]
        exact k4 _ _ n1 n2 (k3 b o n1 n2 n3 e)
      · exact (D4.upd hB.1 hB.2).mono (by omega)
    · rintro H3 ⟨ks, hl, hks, hB3, k3, D3⟩
      have nHB : H B = none := k2.free nB hB.1 hB.2
      exact ⟨B, _, ks, rfl, fun b o n1 n2 e => k3 b o n1 n2 (ne_of_none e nHB) (k2 _ _ n1 n2 e), D3.mono (by omega), k3 _ _ hpn.1 hpn.2 npB hp2, hB3, hl, hks⟩
  clear k2 D2 hp2
  rintro σ' H2 ⟨q2, y3, ks, rfl, k2, D2, hp2, hq2, hlk, hks⟩
  intro u nu
  have su := same_upd (o := .dK []) nu
  have hu := D2.new nu
  refine ⟨.ref p, rfl, 2, rfl, p, _, rfl, .inl (.inl (su _ _ hp2)), fun tl ntl => ?_⟩
  have e1 := cut_map zs none (some 2) 0 2 rfl (by rw [show (some (2 : Int)) = some ((2 : Nat) : Int) from rfl, HT.sIx_nat, hlen]; rfl)
  have e2 := cut_map zs (some 2) (some 4) 2 4 (by rw [show (some (2 : Int)) = some ((2 : Nat) : Int) from rfl, HT.sIx_nat, hlen]; rfl) (by rw [show (some (4 : Int)) = some ((4 : Nat) : Int) from rfl, HT.sIx_nat, hlen]; rfl)
  have e3 := cut_map zs (some 4) none 4 7 (by rw [show (some (4 : Int)) = some ((4 : Nat) : Int) from rfl, HT.sIx_nat, hlen]; rfl) (by rw [HT.sIx_none, hlen])
  rw [e1]
  have s1 := same_upd (o := .lst (((zs.drop 0).take (2 - 0)).map V.str)) ntl
  refine ⟨.ref p, rfl, 2, rfl, 4, rfl, p, _, rfl, .inl (.inl (s1 _ _ (su _ _ hp2))), fun ml nml => ?_⟩
  rw [e2]
  have s2 := same_upd (o := .lst (((zs.drop 2).take (4 - 2)).map V.str)) nml
  refine ⟨small_le (show 1 ≤ 1000 by decide), fun il nil => ?_⟩
  have s3 := same_upd (o := .lst [.str "in"]) nil
  have l2 : ((zs.drop 2).take (4 - 2)).length = 2 := by rw [List.length_take, List.length_drop, hlen]; rfl
  refine ⟨ml, il, _, _, rfl, rfl, s3 _ _ upd_same, upd_same, by rw [List.length_map, l2]; exact small_le (show 3 ≤ 1000 by decide), fun cl ncl => ?_⟩
  have ec : (((zs.drop 2).take (4 - 2)).map V.str) ++ [V.str "in"] = (((zs.drop 2).take (4 - 2)) ++ [("in" : Str)]).map V.str := by rw [List.map_append]; rfl
  rw [ec]
  have s4 := same_upd (o := .lst ((((zs.drop 2).take (4 - 2)) ++ [("in" : Str)]).map V.str)) ncl
  refine ⟨.ref p, rfl, 4, rfl, p, _, rfl, .inl (.inl (s4 _ _ (s3 _ _ (s2 _ _ (s1 _ _ (su _ _ hp2)))))), fun nl nnl => ?_⟩
  rw [e3]
  have s5 := same_upd (o := .lst (((zs.drop 4).take (7 - 4)).map V.str)) nnl
  refine ⟨.ref q2, rfl, ?_⟩
  have s45 := s4.trans s5
  have s25 := s2.trans (s3.trans s45)
  have s15 := s1.trans s25
  have u5 := s15 _ _ (show upd H2 u (.dK []) u = _ from upd_same)
  have t5 := s25 _ _ (show upd (upd H2 u (.dK [])) tl (.lst (((zs.drop 0).take (2 - 0)).map V.str)) tl = _ from upd_same)
  have c5 := s5 _ _ (show upd (upd (upd (upd (upd H2 u (.dK [])) tl (.lst (((zs.drop 0).take (2 - 0)).map V.str))) ml (.lst (((zs.drop 2).take (4 - 2)).map V.str))) il (.lst [.str "in"])) cl (.lst ((((zs.drop 2).take (4 - 2)) ++ [("in" : Str)]).map V.str)) cl = _ from upd_same)
  have n5 : upd (upd (upd (upd (upd (upd H2 u (.dK [])) tl (.lst (((zs.drop 0).take (2 - 0)).map V.str))) ml (.lst (((zs.drop 2).take (4 - 2)).map V.str))) il (.lst [.str "in"])) cl (.lst ((((zs.drop 2).take (4 - 2)) ++ [("in" : Str)]).map V.str))) nl (.lst (((zs.drop 4).take (7 - 4)).map V.str)) nl = _ := upd_same
  have s05 := su.trans s15
  have dtl := D2.new (su.free ntl)
  have dcl := (D2.same (su.trans (s1.trans (s2.trans s3)))).new ncl
  have dnl := (D2.same (su.trans (s1.trans (s2.trans (s3.trans s4))))).new nnl
  clear nnl ncl nil nml ntl s1 s2 s3 s4 s5 s45 s25
  revert u5 t5 c5 n5 s05
  clear s15
  generalize upd (upd (upd (upd (upd (upd H2 u (.dK [])) tl (.lst (((zs.drop 0).take (2 - 0)).map V.str))) ml (.lst (((zs.drop 2).take (4 - 2)).map V.str))) il (.lst [.str "in"])) cl (.lst ((((zs.drop 2).take (4 - 2)) ++ [("in" : Str)]).map V.str))) nl (.lst (((zs.drop 4).take (7 - 4)).map V.str)) = H6
  intro u5 t5 c5 n5 s05
  refine ⟨small_le (show 3 ≤ 1000 by decide), fun jl njl => ?_⟩
  have s6 := same_upd (o := .lst [.int 0, .int 1, .int 2]) njl
  refine ⟨q2, jl, _, _, rfl, rfl, s6 _ _ (s05 _ _ hq2), upd_same, by rw [List.length_map, hlk]; exact small_le (show 5 ≤ 1000 by decide), fun kl nkl => ?_⟩
  have ek : (ks.map V.int) ++ [V.int 0, V.int 1, V.int 2] = (ks ++ [0, 1, 2]).map V.int := by rw [List.map_append]; rfl
  rw [ek]
  have s7 := same_upd (o := .lst ((ks ++ [0, 1, 2]).map V.int)) nkl
  have s67 := s6.trans s7
  have dkl := (D2.same (s05.trans s6)).new nkl
  have k7 : upd (upd H6 jl (.lst [.int 0, .int 1, .int 2])) kl (.lst ((ks ++ [0, 1, 2]).map V.int)) kl = _ := upd_same
  replace u5 := s67 _ _ u5
  replace t5 := s67 _ _ t5
  replace c5 := s67 _ _ c5
  replace n5 := s67 _ _ n5
  replace s05 := s05.trans s67
  clear s6 s7 s67 nkl njl
  revert u5 t5 c5 n5 s05 k7
  generalize upd (upd H6 jl (.lst [.int 0, .int 1, .int 2])) kl (.lst ((ks ++ [0, 1, 2]).map V.int)) = H7
  intro k7 u5 t5 c5 n5 s05
  have tu : tl ≠ u := ne_of t5 u5 (fun z => by cases z)
  have cu : cl ≠ u := ne_of c5 u5 (fun z => by cases z)
  have nu' : nl ≠ u := ne_of n5 u5 (fun z => by cases z)
  have ku : kl ≠ u := ne_of k7 u5 (fun z => by cases z)
  have nHu : H u = none := k2.free nu hu.1 hu.2
  refine ⟨u5, wD tl cl nl kl, rfl, (show 4 ≤ 15 by decide), q _ u tl cl nl kl ((zs.drop 0).take (2 - 0)) ((zs.drop 2).take (4 - 2) ++ [("in" : Str)]) ((zs.drop 4).take (7 - 4)) (ks ++ [0, 1, 2]) (fun b o n1 n2 e => ?_) (((D2.same s05).upd hu.1 hu.2).mono (by omega)) nHu ?_⟩
  · rw [upd_ne (ne_of_none e nHu)]
    exact s05 _ _ (k2 _ _ n1 n2 e)
  · refine ⟨upd_same, by rw [upd_ne tu]; exact t5, by rw [upd_ne cu]; exact c5, by rw [upd_ne nu']; exact n5, by rw [upd_ne ku]; exact k7, dtl, dcl, dnl, dkl, hu, by rw [List.length_take, List.length_drop, hlen]; rfl, by rw [List.length_append, l2]; rfl, by rw [List.length_take, List.length_drop, hlen]; rfl, by rw [List.length_append, hlk]; rfl, fun z hz => hnm z (List.mem_of_mem_drop (List.mem_of_mem_take hz)), fun z hz => ?_, fun z hz => hnm z (List.mem_of_mem_drop (List.mem_of_mem_take hz)), fun k hk => ?_⟩
    · rcases List.mem_append.mp hz with h | h
      · exact hnm z (List.mem_of_mem_drop (List.mem_of_mem_take h))
      · rw [List.mem_singleton.mp h]
        exact in_nm
    · rcases List.mem_append.mp hk with h | h
      · exact hks k h
      · simp only [List.mem_cons, List.not_mem_nil, or_false] at h
        rcases h with rfl | rfl | rfl <;> decide
end
end L41

namespace GR
open PySem PySem.Spec PyProof.Rows L2
theorem FnG.mono {P : Program} {w : World} {K : PySem.W.Frag} {mg : Str → Option Value} {base : Heap} {CX : CXT} {j k : Nat} {f : Addr} {fd : FuncData} {ps : List Str} {sp : Sp} (F : FnG P w K mg base CX j f fd ps sp) (h : j ≤ k) : FnG P w K mg base CX k f fd ps sp :=
  ⟨F.size, fun A outer s H args us vs Q E g hr => F.go A outer s H args us vs Q E g (hr.mono h)⟩
/-! ### the signs of what repr shows -/
abbrev SO (x : Str) : Prop := ∀ c, c ∈ x.cps.toList → c < 0x110000
theorem so_iff {x : Str} : PyData.strOk x = true ↔ SO x := by
  unfold PyData.strOk
  rw [Array.all_eq_true']
  constructor
  · intro h c hc
    have := h c (by simpa using hc)
    simpa using this
  · intro h c hc
    have := h c (by simpa using hc)
    simpa using this
theorem so_append {x y : Str} (hx : SO x) (hy : SO y) : SO (x ++ y) := fun c hc => by
  rcases mem_cps_append.mp hc with h | h
  · exact hx c h
  · exact hy c h
theorem so_join {sep : Str} (hs : SO sep) {ts : List Str} (h : ∀ t, t ∈ ts → SO t) : SO (Str.join sep ts) := fun c hc => by
  rcases (mem_join sep c ts).mp hc with ⟨t, ht, hc⟩ | ⟨_, hc⟩
  · exact h t ht c hc
  · exact hs c hc
theorem hex_so (w c : Nat) : ∀ k, k ∈ List.replicate (w - ((Nat.toDigits 16 c).map Char.toNat).length) 48 ++ (Nat.toDigits 16 c).map Char.toNat → k < 0x110000 := by
  intro k hk
  rcases List.mem_append.mp hk with h | h
  · have := List.eq_of_mem_replicate h
    omega
  · obtain ⟨ch, _, rfl⟩ := List.mem_map.mp h
    have := ch.valid
    have e : ch.toNat = ch.val.toNat := rfl
    rcases this with h | ⟨_, h⟩
    · have h' : ch.val.toNat < 0xd800 := h
      omega
    · have h' : ch.val.toNat < 0x110000 := h
      omega
theorem reprChar_so {q c : Nat} (hc : c < 0x110000) : ∀ k, k ∈ Builtin.Str.reprChar q c → k < 0x110000 := by
  intro k hk
  have h8 := hex_so 8 c k
  have h4 := hex_so 4 c k
  have h2 := hex_so 2 c k
  unfold Builtin.Str.reprChar at hk
  dsimp only at hk
  repeat' split at hk
  all_goals first
    | (rcases List.mem_append.mp hk with hk | hk
       · (simp only [List.mem_cons, List.not_mem_nil, or_false] at hk; omega)
       · first | exact h2 hk | exact h4 hk | exact h8 hk)
    | (simp only [List.mem_cons, List.not_mem_nil, or_false] at hk; omega)
theorem fold_so {q : Nat} : ∀ (l : List Nat) (acc : Array Nat), (∀ c, c ∈ l → c < 0x110000) → (∀ c, c ∈ acc.toList → c < 0x110000) → ∀ c, c ∈ (l.foldl (fun out c => out ++ (Builtin.Str.reprChar q c).toArray) acc).toList → c < 0x110000
  | [], acc, _, h => h
  | d :: r, acc, hl, h => by
    rw [List.foldl_cons]
    refine fold_so r _ (fun c hc => hl c (List.mem_cons_of_mem _ hc)) fun c hc => ?_
    rw [Array.toList_append, List.mem_append] at hc
    rcases hc with hc | hc
    · exact h c hc
    · exact reprChar_so (hl d List.mem_cons_self) c (by simpa using hc)
theorem repr_so {x : Str} (h : SO x) : SO (reprText x) := fun c hc => by
  have hq : reprQuote x < 0x110000 := by
    unfold reprQuote
    split <;> decide
  unfold reprText at hc
  have hc' : c ∈ ((x.cps.foldl (fun out c => out ++ (Builtin.Str.reprChar (reprQuote x) c).toArray) #[reprQuote x]).push (reprQuote x)).toList := hc
  rw [Array.toList_push, List.mem_append] at hc'
  rcases hc' with hc' | hc'
  · rw [← Array.foldl_toList] at hc'
    refine fold_so x.cps.toList _ h (fun c hc => ?_) c hc'
    have : c = reprQuote x := by simpa using hc
    rw [this]
    exact hq
  · have : c = reprQuote x := by simpa using hc'
    rw [this]
    exact hq
mutual
theorem shown_so : ∀ d : PyData, d.canLay0 = true → SO d.shown
  | .none, _ => by rw [PyData.shown_none]; decide
  | .bool b, _ => by
    rw [PyData.shown_bool]
    cases b <;> decide
  | .int i, _ => fun c hc => by
    by_cases h : 57 < c
    · exact absurd hc (shown_int_free' (k := c) ⟨by omega, .inr h⟩ i)
    · omega
  | .str x, h => by
    rw [PyData.shown_str]
    exact repr_so (so_iff.mp (by simpa [PyData.canLay0] using h))
  | .list xs, h => by
    rw [PyData.shown_list]
    exact so_append (so_append (by decide) (so_join (by decide) (shownAll_so xs (by simpa [PyData.canLay0] using h)))) (by decide)
  | .tuple xs, h => by
    rw [PyData.shown_tuple]
    refine so_append (so_append (by decide) (so_join (by decide) (shownAll_so xs (by simpa [PyData.canLay0] using h)))) ?_
    split <;> decide
  | .dict _, h => by simp [PyData.canLay0] at h
theorem shownAll_so : ∀ xs : List PyData, PyData.canLayAll0 xs = true → ∀ t, t ∈ PyData.shownAll xs → SO t
  | [], _, t, ht => by rw [PyData.shownAll_nil] at ht; exact absurd ht (by simp)
  | x :: xs, h, t, ht => by
    have h' : x.canLay0 = true ∧ PyData.canLayAll0 xs = true := by simpa [PyData.canLayAll0] using h
    rw [PyData.shownAll_cons, List.mem_cons] at ht
    rcases ht with rfl | ht
    · exact shown_so x h'.1
    · exact shownAll_so xs h'.2 t ht
end
theorem shown_ok {d : PyData} (h : d.canLay0 = true) : PyData.strOk d.shown = true := so_iff.mpr (shown_so d h)
section
variable {X : Cx} {pins : List (Addr × Obj)} {σ : L2.St} {H : Hp} {s : Shared}
/-- repr of a truth -/
def rReprB : List V → Hp → VK → Prop := fun xs H Q => ∃ b, xs = [.bl b] ∧ Q (.str (PyData.bool b).shown) H
theorem call_reprB : CallR X (.builtin "repr") rReprB := by
  intro pins s σ H xs us Q I r h
  obtain ⟨b, rfl, q⟩ := h
  obtain ⟨u, rfl, rv⟩ := vals1 r
  obtain rfl : u = Value.bool b := rv
  rw [PyData.shown_bool] at q
  exact P.repr_of_bool ⟨.str _, H, I.kept fun _ _ e => e, ⟨_, rfl⟩, q⟩
end
end GR

namespace L41
open PySem PySem.Spec PyProof.Rows L2 GR
/-! ### data of tuples, texts and ints -/
mutual
/-- no lists in it -/
def flatD : PyData → Bool
  | .tuple ds => flatDs ds
  | .int _ => true
  | .str _ => true
  | .bool _ => true
  | .none => true
  | _ => false
def flatDs : List PyData → Bool
  | [] => true
  | d :: ds => flatD d && flatDs ds
end
theorem flatDs_of : ∀ {ds : List PyData}, (∀ d, d ∈ ds → flatD d = true) → flatDs ds = true
  | [], _ => by rw [flatDs]
  | d :: ds, h => by
    rw [flatDs, h d List.mem_cons_self, flatDs_of fun x hx => h x (List.mem_cons_of_mem _ hx)]
    rfl
/-- the tuples stay -/
def KeepT (H H' : Hp) : Prop := (∀ b xs, H b = some (.tup xs) → H' b = some (.tup xs)) ∧ ∀ b o xs, H b = some (.frz o (.tup xs)) → H' b = some (.frz o (.tup xs))
theorem KeepT.of {H H' : Hp} (s : Same H H') : KeepT H H' := ⟨fun b xs e => s b _ e, fun b o xs e => s b _ e⟩
theorem KeepT.refl {H : Hp} : KeepT H H := ⟨fun _ _ e => e, fun _ _ _ e => e⟩
theorem KeepT.trans {H H1 H2 : Hp} (a : KeepT H H1) (b : KeepT H1 H2) : KeepT H H2 := ⟨fun x xs e => b.1 x xs (a.1 x xs e), fun x o xs e => b.2 x o xs (a.2 x o xs e)⟩
theorem KeepT.seqt {K : PySem.W.Frag} {H H' : Hp} (s : KeepT H H') {a : Addr} {xs : List V} (h : SqT K H a xs) : SqT K H' a xs := by
  rcases h with (h | ⟨o, h⟩) | h
  · exact .inl (.inl (s.1 _ _ h))
  · exact .inl (.inr ⟨o, s.2 _ _ _ h⟩)
  · exact .inr h
theorem KeepT.upd {H : Hp} {a : Addr} {o : HO} (ha : ∀ xs, H a ≠ some (.tup xs)) (hb : ∀ u xs, H a ≠ some (.frz u (.tup xs))) : KeepT H (L2.upd H a o) := by
  refine ⟨fun b xs e => ?_, fun b u xs e => ?_⟩
  · have : b ≠ a := by
      rintro rfl
      exact ha xs e
    rw [upd_ne this]
    exact e
  · have : b ≠ a := by
      rintro rfl
      exact hb u xs e
    rw [upd_ne this]
    exact e
theorem KeepT.lst {H : Hp} {a : Addr} {ys : List V} {o : HO} (h : H a = some (.lst ys)) : KeepT H (L2.upd H a o) := KeepT.upd (fun xs e => by rw [h] at e; cases e) (fun u xs e => by rw [h] at e; cases e)
theorem KeepT.dk {H : Hp} {a : Addr} {ys : List (Key × V)} {o : HO} (h : H a = some (.dK ys)) : KeepT H (L2.upd H a o) := KeepT.upd (fun xs e => by rw [h] at e; cases e) (fun u xs e => by rw [h] at e; cases e)
theorem KeepT.non {H : Hp} {a : Addr} {o : HO} (h : H a = none) : KeepT H (L2.upd H a o) := KeepT.of (same_upd h)
theorem Keep.t {H H' : Hp} {d c : Addr} {N : Int} (k : Keep d c H H') (D : Deck H d c N) : KeepT H H' := by
  obtain ⟨cells, m, n, h1, h2, _⟩ := D
  exact ⟨fun b xs e => k _ _ (ne_of e h1 (fun z => by cases z)) (ne_of e h2 (fun z => by cases z)) e,
    fun b o xs e => k _ _ (ne_of e h1 (fun z => by cases z)) (ne_of e h2 (fun z => by cases z)) e⟩
mutual
theorem dp_keep {K : PySem.W.Frag} {H H' : Hp} (s : KeepT H H') : ∀ (d : PyData) (v : V), flatD d = true → Dp K H v d → Dp K H' v d
  | .none, _, _, h => by
    cases h
    exact .non
  | .bool b, _, _, h => by
    cases h
    exact .bl b
  | .int i, _, _, h => by
    cases h
    exact .int i
  | .str z, _, _, h => by
    cases h
    exact .str z
  | .tuple ds, _, hf, h => by
    cases h with
    | tup h1 h2 => exact .tup (s.seqt h1) (dp_keepAll s ds _ (by rw [flatD] at hf; exact hf) h2)
  | .list ds, _, hf, h => by simp only [flatD, Bool.false_eq_true] at hf
  | .dict ds, _, hf, h => by cases h
theorem dp_keepAll {K : PySem.W.Frag} {H H' : Hp} (s : KeepT H H') : ∀ (ds : List PyData) (vs : List V), flatDs ds = true → DpAll K H vs ds → DpAll K H' vs ds
  | [], _, _, h => by
    cases h
    exact .nil
  | d :: ds, _, hf, h => by
    rw [flatDs, Bool.and_eq_true] at hf
    cases h with
    | cons h1 h2 => exact .cons (dp_keep s d _ hf.1 h1) (dp_keepAll s ds _ hf.2 h2)
end
theorem dpAll_len {K : PySem.W.Frag} {H : Hp} : ∀ {vs : List V} {ds : List PyData}, DpAll K H vs ds → vs.length = ds.length
  | [], _, h => by
    cases h
    rfl
  | v :: vs, _, h => by
    cases h with
    | cons _ h2 => rw [List.length_cons, List.length_cons, dpAll_len h2]
theorem dpAll_append {K : PySem.W.Frag} {H : Hp} : ∀ {vs us : List V} {ds es : List PyData}, DpAll K H vs ds → DpAll K H us es → DpAll K H (vs ++ us) (ds ++ es)
  | [], _, _, _, h, g => by
    cases h
    exact g
  | v :: vs, _, _, _, h, g => by
    cases h with
    | cons h1 h2 => exact .cons h1 (dpAll_append h2 g)
theorem dpAll_at {K : PySem.W.Frag} {H : Hp} : ∀ {vs : List V} {ds : List PyData} {i : Nat} {v : V}, DpAll K H vs ds → vs[i]? = some v → ∃ d, ds[i]? = some d ∧ Dp K H v d
  | _, _, 0, v, .cons h _, e => by
    cases e
    exact ⟨_, rfl, h⟩
  | _, _, i + 1, v, .cons _ h, e => by
    rw [List.getElem?_cons_succ] at e ⊢
    exact dpAll_at h e
  | _, _, _, _, .nil, e => by simp at e
theorem flatDs_append : ∀ {xs ys : List PyData}, flatDs xs = true → flatDs ys = true → flatDs (xs ++ ys) = true
  | [], _, _, h => h
  | x :: xs, ys, h, g => by
    rw [flatDs, Bool.and_eq_true] at h
    rw [List.cons_append, flatDs, h.1, flatDs_append h.2 g]
    rfl
theorem new_tup {K : PySem.W.Frag} {H : Hp} {vs : List V} {ds : List PyData} {p : Addr} (hd : DpAll K H vs ds) (hf : flatDs ds = true) (np : H p = none) : Dp K (upd H p (.tup vs)) (.ref p) (.tuple ds) := .tup (.inl (.inl upd_same)) (dp_keepAll (KeepT.non np) _ _ hf hd)
/-! ### how long a text is -/
def sl (d : PyData) : Nat := d.shown.length
def sls : List PyData → Nat
  | [] => 0
  | d :: ds => sl d + 2 + sls ds
theorem sls_eq : ∀ ds : List PyData, ((PyData.shownAll ds).map (·.length)).sum + 2 * ds.length = sls ds
  | [] => by simp only [PyData.shownAll, List.map_nil, List.sum_nil, List.length_nil, sls]
  | d :: ds => by
    have := sls_eq ds
    simp only [PyData.shownAll, List.map_cons, List.sum_cons, List.length_cons, sls, sl]
    omega
theorem sls_append : ∀ (xs ys : List PyData), sls (xs ++ ys) = sls xs + sls ys
  | [], ys => by simp only [List.nil_append, sls, Nat.zero_add]
  | x :: xs, ys => by
    have := sls_append xs ys
    simp only [List.cons_append, sls]
    omega
theorem sls_le {b : PyData → Nat} : ∀ {ds : List PyData}, (∀ d, d ∈ ds → sl d + 2 ≤ b d) → sls ds ≤ (ds.map b).sum
  | [], _ => Nat.le_refl _
  | d :: ds, h => by
    have h1 := h d List.mem_cons_self
    have h2 := sls_le fun x hx => h x (List.mem_cons_of_mem _ hx)
    simp only [sls, List.map_cons, List.sum_cons]
    omega
theorem sl_tup (ds : List PyData) : sl (.tuple ds) ≤ sls ds + 3 := by
  have h1 := tupleText_len_le (PyData.shownAll ds)
  have h2 := sls_eq ds
  rw [PyData.shownAll_length] at h1
  unfold sl
  simp only [PyData.shown]
  omega
theorem sl_lst (ds : List PyData) : sl (.list ds) ≤ sls ds + 3 := by
  have h1 := listText_len_le (PyData.shownAll ds)
  have h2 := sls_eq ds
  rw [PyData.shownAll_length] at h1
  unfold sl
  simp only [PyData.shown]
  omega
theorem sl_name {z : Str} (h : Nm z) : sl (.str z) ≤ 82 := by
  obtain ⟨_, h2, h3, _⟩ := h
  have e := StrLaws.reprText_len z fun c hc => Nat.lt_of_le_of_lt (h3 c hc).2 (by decide)
  have e2 : z.length = z.cps.toList.length := by
    rw [Array.length_toList]
    rfl
  unfold sl
  rw [PyData.shown_str]
  omega
theorem int_nat {n : Int} (h1 : -(10 ^ 18) ≤ n) (h2 : n ≤ 10 ^ 18) : n.natAbs ≤ 1000000000000000000 := by omega
theorem int_log {n : Int} (h1 : -(10 ^ 18) ≤ n) (h2 : n ≤ 10 ^ 18) : n.natAbs.log2 < 60 := by
  by_cases e : n.natAbs = 0
  · rw [e]; decide
  · exact (Nat.log2_lt e).mpr (Nat.lt_of_le_of_lt (int_nat h1 h2) (by decide))
theorem sl_int {n : Int} (h1 : -(10 ^ 18) ≤ n) (h2 : n ≤ 10 ^ 18) : sl (.int n) ≤ 20 := by
  have e := int_text_length_le10 (k := 19) (by decide) (Nat.lt_of_le_of_lt (int_nat h1 h2) (by decide : 1000000000000000000 < 10 ^ 19))
  unfold sl
  rw [PyData.shown_int, PySem.ofString_length]
  exact e

theorem words_len : ∀ w, w ∈ (["int", "key", "var", "cell", "if", "+", "-", "*", "<", "=", "at", "count", "sum", "most", "first", "in", "let", "need", "tell", "put", "each"] : List Str) → sl (.str w) ≤ 7 := by
  have : ∀ w, w ∈ (["int", "key", "var", "cell", "if", "+", "-", "*", "<", "=", "at", "count", "sum", "most", "first", "in", "let", "need", "tell", "put", "each"] : List Str) → (reprText w).length ≤ 7 := by decide +kernel
  intro w hw
  unfold sl
  rw [PyData.shown_str]
  exact this w hw
/-! ### what is drawn -/
/-- data of tuples, texts and ints, of a bounded depth and length -/
structure Fine (k m : Nat) (x : PyData) : Prop where
  flat : flatD x = true
  shw : x.showable = true
  dep : x.depth ≤ k
  len : sl x + 2 ≤ m
theorem Fine.mono {k m k' m' : Nat} {x : PyData} (h : Fine k m x) (h1 : k ≤ k') (h2 : m ≤ m') : Fine k' m' x := ⟨h.flat, h.shw, Nat.le_trans h.dep h1, Nat.le_trans h.len h2⟩
theorem Fine.str {z : Str} (h : Nm z) : Fine 0 84 (.str z) := ⟨by simp only [flatD], by simp only [PyData.showable], by simp only [PyData.depth]; omega, by have := sl_name h; omega⟩
theorem Fine.word {w : Str} (h : w ∈ (["int", "key", "var", "cell", "if", "+", "-", "*", "<", "=", "at", "count", "sum", "most", "first", "in", "let", "need", "tell", "put", "each"] : List Str)) : Fine 0 9 (.str w) := ⟨by simp only [flatD], by simp only [PyData.showable], by simp only [PyData.depth]; omega, by have := words_len w h; omega⟩
theorem Fine.int {n : Int} (h1 : -(10 ^ 18) ≤ n) (h2 : n ≤ 10 ^ 18) : Fine 0 22 (.int n) := ⟨by simp only [flatD], by
  have := int_log h1 h2
  simp only [PyData.showable]
  exact decide_eq_true (by omega), by simp only [PyData.depth]; omega, by have := sl_int h1 h2; omega⟩
/-- parts of a tuple, with their lengths in all -/
inductive Fines (k : Nat) : Nat → List PyData → Prop
  | nil : Fines k 0 []
  | cons {m n : Nat} {x : PyData} {xs : List PyData} : Fine k m x → Fines k n xs → Fines k (m + n) (x :: xs)
theorem Fines.all {k n : Nat} {xs : List PyData} (h : Fines k n xs) : flatDs xs = true ∧ PyData.showableAll xs = true ∧ PyData.depthAll xs ≤ k ∧ sls xs ≤ n := by
  induction h with
  | nil => exact ⟨by simp only [flatDs], by simp only [PyData.showableAll], by simp only [PyData.depthAll]; omega, Nat.le_refl _⟩
  | cons h1 _ ih =>
    obtain ⟨a, b, c, d⟩ := ih
    refine ⟨by simp only [flatDs, h1.flat, a, Bool.and_self], by simp only [PyData.showableAll, h1.shw, b, Bool.and_self], ?_, ?_⟩
    · have := h1.dep
      simp only [PyData.depthAll]
      omega
    · have := h1.len
      simp only [sls]
      omega
theorem Fines.tup {k n : Nat} {xs : List PyData} (h : Fines k n xs) : Fine (k + 1) (n + 5) (.tuple xs) := by
  obtain ⟨a, b, c, d⟩ := h.all
  refine ⟨by simp only [flatD, a], by simp only [PyData.showable, b], by simp only [PyData.depth]; omega, ?_⟩
  have := sl_tup xs
  omega
theorem Fine.k0 {k m : Nat} {x : PyData} (h : Fine 0 m x) : Fine k m x := h.mono (Nat.zero_le _) (Nat.le_refl _)
end L41

namespace L41
open PySem PySem.Spec PyProof.Rows L2 GR
/-! ### expressions by their form (a let only where the sign + is told among the names): names of tables and columns among zs, variables among sc, a key only where b -/
abbrev ops5 : List Str := ["+", "-", "*", "<", "="]
abbrev aggk : List (Str × Nat × Nat) := [("count", 0, 0), ("sum", 1, 0), ("most", 1, 1), ("first", 0, 1)]
/-- the X of a plain aggregate -/
def rowX (t : Str) : PyData := .tuple [.str "cell", .str t, .tuple [.str "key"], .str "in"]
inductive Cx (zs sc : List Str) : Bool → Nat → PyData → Prop
  | int (b : Bool) (n : Nat) (i : Int) : -(10 ^ 18) ≤ i → i ≤ 10 ^ 18 → Cx zs sc b (n + 1) (.tuple [.str "int", .int i])
  | let_ (b : Bool) (n : Nat) (i : Int) : ("+" : Str) ∈ zs → 0 ≤ i → i ≤ 10000 → Cx zs sc b (n + 1) (.tuple [.str "let", .int i])
  | key (n : Nat) : Cx zs sc true (n + 1) (.tuple [.str "key"])
  | var (b : Bool) (n : Nat) (z : Str) : z ∈ sc → Cx zs sc b (n + 1) (.tuple [.str "var", .str z])
  | cell (b : Bool) (n : Nat) (t v : Str) (x : PyData) : (t ∈ zs ∧ t ≠ "#") → (v ∈ zs ∧ v ≠ "#") → Cx zs sc b n x → Cx zs sc b (n + 1) (.tuple [.str "cell", .str t, x, .str v])
  | op (b : Bool) (n : Nat) (o : Str) (x y : PyData) : o ∈ ops5 → Cx zs sc b n x → Cx zs sc b n y → Cx zs sc b (n + 1) (.tuple [.str o, x, y])
  | at_ (b : Bool) (n : Nat) (x y : PyData) : Cx zs sc b n x → Cx zs sc true n y → Cx zs sc b (n + 1) (.tuple [.str "at", x, y])
  | iff (b : Bool) (n : Nat) (x y z : PyData) : Cx zs sc b n x → Cx zs sc b n y → Cx zs sc b n z → Cx zs sc b (n + 1) (.tuple [.str "if", x, y, z])
  | agg (b : Bool) (n : Nat) (o t : Str) (p : PyData) (xs vs ds : List PyData) : ("#" : Str) ∈ zs → 2 ≤ n → (o, vs.length, ds.length) ∈ aggk → (t ∈ zs ∧ t ≠ "#") → xs.length ≤ 0 → (∀ x, x ∈ xs → Cx zs sc b 1 x) → Cx zs sc true n p → (∀ x, x ∈ vs → Cx zs sc true n x) → (∀ x, x ∈ ds → Cx zs sc b n x) →
      Cx zs sc b (n + 1) (.tuple (.str o :: .str t :: .tuple xs :: rowX t :: p :: (vs ++ ds)))
theorem Cx.mono {zs sc : List Str} : ∀ {b : Bool} {n m : Nat} {x : PyData}, Cx zs sc b n x → n ≤ m → Cx zs sc b m x := by
  intro b n m x h
  induction h generalizing m with
  | int b n i h1 h2 => intro hm; obtain ⟨k, rfl⟩ : ∃ k, m = k + 1 := ⟨m - 1, by omega⟩; exact .int b k i h1 h2
  | let_ b n i g9 h1 h2 => intro hm; obtain ⟨k, rfl⟩ : ∃ k, m = k + 1 := ⟨m - 1, by omega⟩; exact .let_ b k i g9 h1 h2
  | key n => intro hm; obtain ⟨k, rfl⟩ : ∃ k, m = k + 1 := ⟨m - 1, by omega⟩; exact .key k
  | var b n z h1 => intro hm; obtain ⟨k, rfl⟩ : ∃ k, m = k + 1 := ⟨m - 1, by omega⟩; exact .var b k z h1
  | cell b n t v x h1 h2 _ ih => intro hm; obtain ⟨k, rfl⟩ : ∃ k, m = k + 1 := ⟨m - 1, by omega⟩; exact .cell b k t v x h1 h2 (ih (by omega))
  | op b n o x y h1 _ _ ih1 ih2 => intro hm; obtain ⟨k, rfl⟩ : ∃ k, m = k + 1 := ⟨m - 1, by omega⟩; exact .op b k o x y h1 (ih1 (by omega)) (ih2 (by omega))
  | at_ b n x y _ _ ih1 ih2 => intro hm; obtain ⟨k, rfl⟩ : ∃ k, m = k + 1 := ⟨m - 1, by omega⟩; exact .at_ b k x y (ih1 (by omega)) (ih2 (by omega))
  | iff b n x y z _ _ _ ih1 ih2 ih3 => intro hm; obtain ⟨k, rfl⟩ : ∃ k, m = k + 1 := ⟨m - 1, by omega⟩; exact .iff b k x y z (ih1 (by omega)) (ih2 (by omega)) (ih3 (by omega))
  | agg b n o t p xs vs ds hh h0 h1 h2 h3 h4 _ _ _ _ ih2 ih3 ih4 => intro hm; obtain ⟨k, rfl⟩ : ∃ k, m = k + 1 := ⟨m - 1, by omega⟩; exact .agg b k o t p xs vs ds hh (by omega) h1 h2 h3 h4 (ih2 (by omega)) (fun x hx => ih3 x hx (by omega)) (fun x hx => ih4 x hx (by omega))
/-- a key may be allowed -/
theorem Cx.free {zs sc : List Str} {b : Bool} {n : Nat} {x : PyData} (h : Cx zs sc b n x) : Cx zs sc true n x := by
  induction h with
  | int b n i h1 h2 => exact .int true n i h1 h2
  | let_ b n i g9 h1 h2 => exact .let_ true n i g9 h1 h2
  | key n => exact .key n
  | var b n z h1 => exact .var true n z h1
  | cell b n t v x h1 h2 _ ih => exact .cell true n t v x h1 h2 ih
  | op b n o x y h1 _ _ ih1 ih2 => exact .op true n o x y h1 ih1 ih2
  | at_ b n x y _ h2 ih1 _ => exact .at_ true n x y ih1 h2
  | iff b n x y z _ _ _ ih1 ih2 ih3 => exact .iff true n x y z ih1 ih2 ih3
  | agg b n o t p xs vs ds hh h0 h1 h2 h3 _ h5 h6 _ ih1 _ _ ih4 => exact .agg true n o t p xs vs ds hh h0 h1 h2 h3 ih1 h5 h6 ih4
/-- more names -/
theorem Cx.wide {zs zs' sc sc' : List Str} (hz : ∀ z, z ∈ zs → z ∈ zs') (hs : ∀ z, z ∈ sc → z ∈ sc') {b : Bool} {n : Nat} {x : PyData} (h : Cx zs sc b n x) : Cx zs' sc' b n x := by
  induction h with
  | int b n i h1 h2 => exact .int b n i h1 h2
  | let_ b n i g9 h1 h2 => exact .let_ b n i (hz _ g9) h1 h2
  | key n => exact .key n
  | var b n z h1 => exact .var b n z (hs _ h1)
  | cell b n t v x h1 h2 _ ih => exact .cell b n t v x ⟨hz _ h1.1, h1.2⟩ ⟨hz _ h2.1, h2.2⟩ ih
  | op b n o x y h1 _ _ ih1 ih2 => exact .op b n o x y h1 ih1 ih2
  | at_ b n x y _ _ ih1 ih2 => exact .at_ b n x y ih1 ih2
  | iff b n x y z _ _ _ ih1 ih2 ih3 => exact .iff b n x y z ih1 ih2 ih3
  | agg b n o t p xs vs ds hh h0 h1 h2 h3 _ _ _ _ ih1 ih2 ih3 ih4 => exact .agg b n o t p xs vs ds (hz _ hh) h0 h1 ⟨hz _ h2.1, h2.2⟩ h3 ih1 ih2 ih3 ih4
end L41

/-! == of a tuple, of a list, whatever they hold, with the empty one -/
namespace ZE
open PySem PySem.Spec PyProof.Rows L2 GR
def rT0 (K : PySem.W.Frag) : R2 := fun x y H Q => ∃ (a b : Addr) (xs : List V), x = .ref a ∧ y = .ref b ∧ SqT K H a xs ∧ SqT K H b [] ∧ Q (.bl xs.isEmpty) H
def rL0 (K : PySem.W.Frag) : R2 := fun x y H Q => ∃ (a b : Addr) (xs : List V), x = .ref a ∧ y = .ref b ∧ SqL K H a xs ∧ SqL K H b [] ∧ Q (.bl xs.isEmpty) H
section
variable {X : Cx}
theorem empty_size {its : List Value} {xs : List V} (r : Vals xs its) : (its.toArray.size == 0) = xs.isEmpty := by
  cases r <;> rfl
theorem op_eqT0 (hu : X.A.units < cLine) : OpR X (compareOp .Eq) (rT0 X.K) := by
  intro pins s σ H x y v u Q I rx ry h
  obtain ⟨a, b, xs, rfl, rfl, ha, hb, q⟩ := h
  cases rx
  cases ry
  obtain ⟨its, rv, pt, hz⟩ := I.tuple ha
  obtain ⟨its2, rv2, pt2, hz2⟩ := I.tuple hb
  cases rv2
  refine SeqAt.eq_tupleAt (e := fun _ => true) pt pt2 hu (fun j h1 h2 => absurd h2 (Nat.not_lt_zero _)) ?_
  refine ⟨.bl xs.isEmpty, H, I, ?_, q⟩
  show Value.bool _ = Value.bool _
  rw [← empty_size rv]
  simp
theorem op_eqL0 (hu : X.A.units < cLine) : OpR X (compareOp .Eq) (rL0 X.K) := by
  intro pins s σ H x y v u Q I rx ry h
  obtain ⟨a, b, xs, rfl, rfl, ha, hb, q⟩ := h
  cases rx
  cases ry
  obtain ⟨its, rv, pl, hz⟩ := I.list ha
  obtain ⟨its2, rv2, pl2, hz2⟩ := I.list hb
  cases rv2
  cases rv with
  | nil => exact SeqAt.eq_listAt (e := fun _ => true) pl.isList pl2.isList rfl hu (fun j h1 h2 => absurd h2 (Nat.not_lt_zero _)) ⟨.bl true, H, I, rfl, q⟩
  | cons r t => exact SeqAt.eq_list_lengthsAt pl.isList pl2.isList (by simp) hu ⟨.bl false, H, I, rfl, q⟩
end
end ZE

/-! != of a list, whatever it holds, with the empty one -/
namespace ZE
open PySem PySem.Spec PyProof.Rows L2 GR
def rNL0 (K : PySem.W.Frag) : R2 := fun x y H Q => ∃ (a b : Addr) (xs : List V), x = .ref a ∧ y = .ref b ∧ SqL K H a xs ∧ SqL K H b [] ∧ Q (.bl (!xs.isEmpty)) H
section
variable {X : Cx}
theorem op_neL0 (hu : X.A.units < cLine) : OpR X (compareOp .NotEq) (rNL0 X.K) := by
  intro pins s σ H x y v u Q I rx ry h
  obtain ⟨a, b, xs, rfl, rfl, ha, hb, q⟩ := h
  cases rx
  cases ry
  obtain ⟨its, rv, pl, hz⟩ := I.list ha
  obtain ⟨its2, rv2, pl2, hz2⟩ := I.list hb
  cases rv2
  cases rv with
  | nil => exact SeqAt.RcNeAt.lists (e := fun _ => true) pl.isList pl2.isList rfl hu (fun j h1 h2 => absurd h2 (Nat.not_lt_zero _)) _ _ _ _ ⟨.bl false, H, I, rfl, q⟩
  | cons r t => exact SeqAt.RcNeAt.lists_lengths pl.isList pl2.isList (by simp) hu _ _ _ _ ⟨.bl true, H, I, rfl, q⟩
end
end ZE

namespace L41
open PySem PySem.Spec PyProof.Rows L2 GR
/-- how many draws, how long -/
def dx : Nat → Int
  | 0 => 10
  | n + 1 => 30 + 6 * dx n
theorem dx_pos : ∀ n, 10 ≤ dx n
  | 0 => by simp only [dx]; omega
  | n + 1 => by
    have := dx_pos n
    simp only [dx]
    omega
def em : Nat → Nat
  | 0 => 100
  | n + 1 => 3 * em n + 240
theorem em_pos : ∀ n, 100 ≤ em n
  | 0 => by simp only [em]; omega
  | n + 1 => by
    have := em_pos n
    simp only [em]
    omega
theorem small1000 {n : Nat} (h : n ≤ 1000) : n < sizeLine := by
  have : sizeLine = 16777216 := by decide
  omega
theorem h1000 {n : Nat} (h : n ≤ 1000) : n ≤ sizeLine := small_le h
theorem noSl_str {z : Str} {pos : Pos} {k} : NoSl (.Constant (.str z) k pos) := fun _ _ => rfl
theorem noSl_name {x : Str} {pos : Pos} : NoSl (.Name x pos) := fun _ _ => rfl
theorem iteA {c : Bool} {A B : Prop} (h : A) (h2 : ¬ c = true → B) : if c = true then A else B := by
  split
  · exact h
  · rename_i e
    exact h2 e
def kv4 (a b c e : Addr) : List (Key × V) := [(.inr "count", .ref a), (.inr "sum", .ref b), (.inr "most", .ref c), (.inr "first", .ref e)]
theorem kv4_1 (a b c e : Addr) : valV (mergeK [] (kv4 a b c e)) (.inr "count") = some (.ref a) := valV_pos rfl
theorem kv4_2 (a b c e : Addr) : valV (mergeK [] (kv4 a b c e)) (.inr "sum") = some (.ref b) := (valV_neg (show ¬ ((.inr "count" : Key) = .inr "sum") by decide)).trans (valV_pos rfl)
theorem kv4_3 (a b c e : Addr) : valV (mergeK [] (kv4 a b c e)) (.inr "most") = some (.ref c) := (valV_neg (show ¬ ((.inr "count" : Key) = .inr "most") by decide)).trans ((valV_neg (show ¬ ((.inr "sum" : Key) = .inr "most") by decide)).trans (valV_pos rfl))
theorem kv4_4 (a b c e : Addr) : valV (mergeK [] (kv4 a b c e)) (.inr "first") = some (.ref e) := (valV_neg (show ¬ ((.inr "count" : Key) = .inr "first") by decide)).trans ((valV_neg (show ¬ ((.inr "sum" : Key) = .inr "first") by decide)).trans ((valV_neg (show ¬ ((.inr "most" : Key) = .inr "first") by decide)).trans (valV_pos rfl)))
theorem Fines.append {k m n : Nat} {xs ys : List PyData} (h : Fines k m xs) (g : Fines k n ys) : Fines k (m + n) (xs ++ ys) := by
  induction h with
  | nil => rw [Nat.zero_add]; exact g
  | @cons a b x xs h1 _ ih =>
    rw [Nat.add_assoc]
    exact .cons h1 ih
/-- the names of tables and columns -/
abbrev nms (ts cs : List Str) : List Str := ("in" : Str) :: (ts ++ cs)
/-- a sign where aggregates may be -/
def mark (l : Int) : List Str := if l < 2 then ["#"] else []
abbrev nmx (l : Int) (ts cs : List Str) : List Str := ("in" : Str) :: (ts ++ (cs ++ mark l))
theorem mark_max {l : Int} (h0 : 0 ≤ l) (h2 : l ≤ 2) : mark (if l > 1 then l else 1) = mark l := by
  unfold mark
  split <;> split <;> simp_all <;> omega
theorem mark_one {l : Int} (h : ¬ l = 2) (h2 : l ≤ 2) : mark l = mark 1 := by
  unfold mark
  rw [if_pos (by omega), if_pos (by decide)]
theorem nmx_max {l : Int} {ts cs : List Str} (h0 : 0 ≤ l) (h2 : l ≤ 2) : nmx (if l > 1 then l else 1) ts cs = nmx l ts cs := by
  show ("in" : Str) :: (ts ++ (cs ++ mark (if l > 1 then l else 1))) = ("in" : Str) :: (ts ++ (cs ++ mark l))
  rw [mark_max h0 h2]
theorem nmx_one {l : Int} {ts cs : List Str} (h : ¬ l = 2) (h2 : l ≤ 2) : nmx 1 ts cs = nmx l ts cs := by
  show ("in" : Str) :: (ts ++ (cs ++ mark 1)) = ("in" : Str) :: (ts ++ (cs ++ mark l))
  rw [mark_one h h2]
theorem mark_in : ("#" : Str) ∈ mark 1 := by decide
/-- one that may be picked -/
def GV (K : PySem.W.Frag) (zs sc : List Str) (b : Bool) (H : Hp) (v : V) : Prop := ∃ x, Dp K H v x ∧ Fine 3 100 x ∧ Cx zs sc b 2 x
theorem GV.keep {K : PySem.W.Frag} {zs sc : List Str} {b : Bool} {H H' : Hp} {v : V} (h : GV K zs sc b H v) (k : KeepT H H') : GV K zs sc b H' v := by
  obtain ⟨x, h1, h2, h3⟩ := h
  exact ⟨x, dp_keep k _ _ h2.flat h1, h2, h3⟩
theorem nm_hash {z : Str} (h : Nm z) : z ≠ "#" := fun e => by
  have := (h.2.2.1 35 (by rw [e]; decide)).1
  omega
section
variable {P : Program} {w : World} {K : PySem.W.Frag} {mg : Str → Option Value} {base : Heap}
abbrev s_law_number : Stmt := topS 45
abbrev s_law_cell : Stmt := topS 46
abbrev s_law_leaf : Stmt := topS 47
abbrev s_law_aggregate : Stmt := topS 48
abbrev s_law_expression : Stmt := topS 49
abbrev ps_in : List Str := ["_law_deck_here", "_law_world_here"]
abbrev N_in : List Str := ["_law_deck_here", "_law_world_here", "_law_way"]
theorem sc_law_number : FnScope N_in ps_in (defScope s_law_number) := ⟨rfl, rfl, rfl, by decide +kernel, rfl, by decide +kernel, by decide +kernel⟩
abbrev ps_ce : List Str := ["_law_table", "_law_key", "_law_column"]
theorem sc_law_cell : FnScope ps_ce ps_ce (defScope s_law_cell) := ⟨rfl, rfl, rfl, by decide +kernel, rfl, by decide +kernel, by decide +kernel⟩
abbrev ps_lf : List Str := ["_law_deck_here", "_law_world_here", "_law_scope", "_law_loose"]
abbrev N_lf : List Str := ["_law_deck_here", "_law_world_here", "_law_scope", "_law_loose", "_law_way"]
theorem sc_law_leaf : FnScope N_lf ps_lf (defScope s_law_leaf) := ⟨rfl, rfl, rfl, by decide +kernel, rfl, by decide +kernel, by decide +kernel⟩
abbrev ps_ag : List Str := ["_law_deck_here", "_law_world_here", "_law_deep", "_law_scope"]
abbrev N_ag : List Str := ["_law_deck_here", "_law_world_here", "_law_deep", "_law_scope", "_law_table", "_law_word", "_law_some"]
theorem sc_law_aggregate : FnScope N_ag ps_ag (defScope s_law_aggregate) := ⟨rfl, rfl, rfl, by decide +kernel, rfl, by decide +kernel, by decide +kernel⟩
abbrev ps_ex : List Str := ["_law_deck_here", "_law_world_here", "_law_deep", "_law_scope", "_law_loose"]
abbrev N_ex : List Str := ["_law_deck_here", "_law_world_here", "_law_deep", "_law_scope", "_law_loose", "_law_way", "_law_one", "_law_near", "_law_other"]
theorem sc_law_expression : FnScope N_ex ps_ex (defScope s_law_expression) := ⟨rfl, rfl, rfl, by decide +kernel, rfl, by decide +kernel, by decide +kernel⟩
/-- the list of variables that may be used -/
structure Scp (H : Hp) (d c sc : Addr) (scope : List Str) : Prop where
  at' : H sc = some (.lst (scope.map V.str))
  n0 : sc ≠ d ∧ sc ≠ c
  nm : ∀ z, z ∈ scope → Nm z
  len : scope.length ≤ 10
theorem Scp.keep {H H' : Hp} {d c sc : Addr} {scope : List Str} (S : Scp H d c sc scope) (k : Keep d c H H') : Scp H' d c sc scope := ⟨k _ _ S.n0.1 S.n0.2 S.at', S.n0, S.nm, S.len⟩
/-- tuples of a word and one more -/
theorem tup2 {k m : Nat} {w : Str} {x : PyData} (hw : w ∈ (["int", "key", "var", "cell", "if", "+", "-", "*", "<", "=", "at", "count", "sum", "most", "first", "in", "let", "need", "tell", "put", "each"] : List Str)) (hx : Fine k m x) : Fine (k + 1) (m + 14) (.tuple [.str w, x]) :=
  ((Fines.cons (Fine.word hw).k0 (.cons hx .nil)).tup).mono (Nat.le_refl _) (by omega)
theorem fine_key : Fine 1 14 (.tuple [.str "key"]) := ((Fines.cons (Fine.word (w := "key") (by decide)).k0 .nil).tup).mono (Nat.le_refl _) (by decide)
/-- where a world is -/
def AtW (H : Hp) (d c u : Addr) (ts cs ns : List Str) : Prop := ∃ tl cl nl kl ks, Wd H d c u tl cl nl kl ts cs ns ks
theorem AtW.keep {H H' : Hp} {d c u : Addr} {ts cs ns : List Str} (W : AtW H d c u ts cs ns) (k : Keep d c H H') : AtW H' d c u ts cs ns := by
  obtain ⟨tl, cl, nl, kl, ks, h⟩ := W
  exact ⟨tl, cl, nl, kl, ks, h.keep k⟩
def sp_int : Sp := fun vs H Q _ => ∃ (d c u : Addr) (N : Int) (ts cs ns : List Str), vs = [.ref d, .ref u] ∧ Deck H d c N ∧ N < 2 ^ 55 ∧ AtW H d c u ts cs ns ∧
  ∀ H' i, Keep d c H H' → Deck H' d c (N + 3) → -(10 ^ 18) ≤ i → i ≤ 10 ^ 18 → Q (.int i) H'
theorem ok_integer {f f_law_draw f_law_pick : Addr} {fd fd_law_draw fd_law_pick : FuncData} {k : Nat} (F : Fun K "_law_number" "_law_number" s_law_number f fd) (G_law_draw : FnOk P w K mg base CX0 k f_law_draw fd_law_draw ["_law_deck_here", "_law_most"] sp_draw)
    (g_law_draw : mg "_law_draw" = some (.ref f_law_draw)) (K_law_draw : PySem.W.keepIn K (.ref f_law_draw) = true) (b_law_draw : Binds K fd_law_draw ["_law_deck_here", "_law_most"] [])
    (G_law_pick : FnOk P w K mg base CX0 k f_law_pick fd_law_pick ["_law_deck_here", "_law_some"] (sp_pick K))
    (g_law_pick : mg "_law_pick" = some (.ref f_law_pick)) (K_law_pick : PySem.W.keepIn K (.ref f_law_pick) = true) (b_law_pick : Binds K fd_law_pick ["_law_deck_here", "_law_some"] []) : FnOk P w K mg base CX0 (k + 1) f fd ps_in sp_int := by
  have nd := sc_law_number.nd
  refine F.ok sc_law_number (fun vs H Q E h => ?_) (fun cdv A outer s H vs Q E hr h => ?_)
  · obtain ⟨d, c, u, N, ts, cs, ns, rfl, _⟩ := h
    rfl
  obtain ⟨d, c, u, N, ts, cs, ns, rfl, D, hN, W, q⟩ := h
  have hu1 : (A.deeper (envOfC "_law_number" (defScope s_law_number) s.heap.objs.size f cdv)).units + 1 < cLine := by
    have := hr.units
    omega
  refine ⟨_, (pss_cons (ps_set (i := 2) nd rfl (.inl rfl) (pe_call G_law_draw hr (by rfl) g_law_draw K_law_draw b_law_draw .nil pass0 (pa_cons (pv 0) (pa_cons pe_int pa_nil))))
      (pss_cons (ps_if (pt_cmpR op_lt (pv 2) pe_int (nomark _))
      (pss_one (ps_ret (pe_call G_law_pick hr (by rfl) g_law_pick K_law_pick b_law_pick .nil pass0 (pa_cons (pv 0) (pa_cons (pe_dget hu1 (pv 1) pe_str noSl_str) pa_nil)))))
      pss_nil)
      (pss_cons (ps_if (pt_cmpR op_eq (pv 2) pe_int (nomark _))
      (pss_one (ps_ret (pe_call G_law_pick hr (by rfl) g_law_pick K_law_pick b_law_pick .nil pass0 (pa_cons (pv 0) (pa_cons (pe_lst (pa_cons (pe_op op_pow pe_int pe_int) (pa_cons (pe_op op_sub pe_int (pe_op op_pow pe_int pe_int)) (pa_cons (pe_op op_pow pe_int pe_int) (pa_cons (pe_op op_sub (pe_op op_pow pe_int pe_int) pe_int) pa_nil))))) pa_nil)))))
      pss_nil)
      (pss_one (ps_ret (pe_op op_sub (pe_call G_law_draw hr (by rfl) g_law_draw K_law_draw b_law_draw .nil pass0 (pa_cons (pv 0) (pa_cons pe_int pa_nil))) pe_int)))))), ?_⟩
  have LIM : (10 : Int) ^ 18 = 1000000000000000000 := by decide
  refine ⟨.ref d, rfl, d, c, N, 8, rfl, D, by omega, by decide, by decide, fun H1 way k1 D1 w0 w1 => ?_⟩
  refine ⟨.int way, rfl, _, _, rfl, rfl, _, rfl, ite2 (fun e => ?_) (fun e => ?_)⟩
  · obtain ⟨tl, cl, nl, kl, ks, W1⟩ := W.keep k1
    refine ⟨.ref d, rfl, .ref u, rfl, u, .ref kl, rfl, ?_, .inl ⟨d, c, kl, _, _, rfl, D1, by omega, .inl (.inl W1.hk), ?_, ?_, W1.k0.1, W1.k0.2, fun H2 v k2 D2 hv => ?_⟩⟩
    · rw [← wD_k tl cl nl kl]
      exact DGet.k (k := .inr "keys") W1.dct
    · intro e
      have := congrArg List.length e
      rw [List.length_map, W1.lk] at this
      cases this
    · rw [List.length_map, W1.lk]
      decide
    obtain ⟨i, hi, rfl⟩ := List.mem_map.mp hv
    have := W1.ak i hi
    exact q _ _ (k1.trans k2) (D2.mono (by omega)) (by omega) (by omega)
  · refine ⟨.int way, rfl, rfl, _, rfl, ite2 (fun e => ?_) (fun e => ?_)⟩
    · refine ⟨.ref d, rfl, _, _, rfl, rfl, ⟨by decide, by decide⟩, ?_⟩
      refine ⟨_, _, rfl, rfl, ⟨by decide, by decide⟩, _, _, rfl, rfl, ?_⟩
      refine ⟨_, _, rfl, rfl, ⟨by decide, by decide⟩, ?_⟩
      refine ⟨_, _, rfl, rfl, ⟨by decide, by decide⟩, _, _, rfl, rfl, h1000 (show 4 ≤ 1000 by decide), fun l nl => ?_⟩
      have sl := same_upd (o := .lst [.int ((10 : Int) ^ (18 : Int).toNat), .int (0 - (10 : Int) ^ (18 : Int).toNat), .int ((10 : Int) ^ (9 : Int).toNat), .int ((10 : Int) ^ (18 : Int).toNat - 1)]) nl
      have hln := D1.new nl
      refine .inl ⟨d, c, l, _, [.int ((10 : Int) ^ (18 : Int).toNat), .int (0 - (10 : Int) ^ (18 : Int).toNat), .int ((10 : Int) ^ (9 : Int).toNat), .int ((10 : Int) ^ (18 : Int).toNat - 1)], rfl, D1.same sl, by omega, .inl (.inl upd_same), List.cons_ne_nil _ _, (show 4 ≤ 1000 by decide), hln.1, hln.2, fun H2 v k2 D2 hv => ?_⟩
      obtain ⟨i, rfl, h1, h2⟩ : ∃ i : Int, v = .int i ∧ -(10 ^ 18) ≤ i ∧ i ≤ 10 ^ 18 := by
        simp only [List.mem_cons, List.not_mem_nil, or_false] at hv
        rcases hv with rfl | rfl | rfl | rfl
        · exact ⟨_, rfl, by decide, by decide⟩
        · exact ⟨_, rfl, by decide, by decide⟩
        · exact ⟨_, rfl, by decide, by decide⟩
        · exact ⟨_, rfl, by decide, by decide⟩
      exact q _ _ ((k1.trans (Keep.of sl)).trans k2) (D2.mono (by omega)) h1 h2
    · refine ⟨.ref d, rfl, d, c, _, 12, rfl, D1, by omega, by decide, by decide, fun H2 r k2 D2 r0 r1 => ⟨_, _, rfl, rfl, ?_⟩⟩
      exact q _ _ (k1.trans k2) (D2.mono (by omega)) (by omega) (by omega)
/-- a tuple of what is given -/
def sp_cell : Sp := fun vs H Q _ => ∃ a b c, vs = [a, b, c] ∧ ∀ p, H p = none → Q (.ref p) (upd H p (.tup [.str "cell", a, b, c]))
theorem ok_cell {f : Addr} {fd : FuncData} {k : Nat} (F : Fun K "_law_cell" "_law_cell" s_law_cell f fd) : FnOk P w K mg base CX0 (k + 1) f fd ps_ce sp_cell := by
  have nd := sc_law_cell.nd
  refine F.ok sc_law_cell (fun vs H Q E h => ?_) (fun cdv A outer s H vs Q E hr h => ?_)
  · obtain ⟨a, b, c, rfl, _⟩ := h
    rfl
  obtain ⟨a, b, c, rfl, q⟩ := h
  refine ⟨_, (pss_one (ps_ret (pe_tup (pa_cons pe_str (pa_cons (pv 0) (pa_cons (pv 1) (pa_cons (pv 2) pa_nil))))))), ?_⟩
  exact ⟨a, rfl, b, rfl, c, rfl, h1000 (show 4 ≤ 1000 by decide), fun p np => q p np⟩
def sp_leaf (K : PySem.W.Frag) : Sp := fun vs H Q _ => ∃ (d c u sc : Addr) (N : Int) (b : Bool) (ts cs ns scope : List Str), vs = [.ref d, .ref u, .ref sc, .bl b] ∧ Deck H d c N ∧ N < 2 ^ 54 ∧ AtW H d c u ts cs ns ∧ Scp H d c sc scope ∧
  ∀ H' v x, Keep d c H H' → Deck H' d c (N + 5) → Fine 3 100 x → (∀ zs, Cx zs scope b 1 x) → Dp K H' v x → Q v H'
theorem ok_leaf {f f_law_draw f_law_pick f_law_number : Addr} {fd fd_law_draw fd_law_pick fd_law_number : FuncData} {k : Nat} (F : Fun K "_law_leaf" "_law_leaf" s_law_leaf f fd) (G_law_draw : FnOk P w K mg base CX0 k f_law_draw fd_law_draw ["_law_deck_here", "_law_most"] sp_draw)
    (g_law_draw : mg "_law_draw" = some (.ref f_law_draw)) (K_law_draw : PySem.W.keepIn K (.ref f_law_draw) = true) (b_law_draw : Binds K fd_law_draw ["_law_deck_here", "_law_most"] [])
    (G_law_pick : FnOk P w K mg base CX0 k f_law_pick fd_law_pick ["_law_deck_here", "_law_some"] (sp_pick K))
    (g_law_pick : mg "_law_pick" = some (.ref f_law_pick)) (K_law_pick : PySem.W.keepIn K (.ref f_law_pick) = true) (b_law_pick : Binds K fd_law_pick ["_law_deck_here", "_law_some"] [])
    (G_law_number : FnOk P w K mg base CX0 k f_law_number fd_law_number ps_in sp_int)
    (g_law_number : mg "_law_number" = some (.ref f_law_number)) (K_law_number : PySem.W.keepIn K (.ref f_law_number) = true) (b_law_number : Binds K fd_law_number ps_in []) : FnOk P w K mg base CX0 (k + 1) f fd ps_lf (sp_leaf K) := by
  have nd := sc_law_leaf.nd
  refine F.ok sc_law_leaf (fun vs H Q E h => ?_) (fun cdv A outer s H vs Q E hr h => ?_)
  · obtain ⟨d, c, u, sc, N, b, ts, cs, ns, scope, rfl, _⟩ := h
    rfl
  obtain ⟨d, c, u, sc, N, b, ts, cs, ns, scope, rfl, D, hN, W, S, q⟩ := h
  have hu1 : (A.deeper (envOfC "_law_leaf" (defScope s_law_leaf) s.heap.objs.size f cdv)).units + 1 < cLine := by
    have := hr.units
    omega
  have hu : (A.deeper (envOfC "_law_leaf" (defScope s_law_leaf) s.heap.objs.size f cdv)).units < cLine := by omega
  refine ⟨_, (pss_cons (ps_set (i := 4) nd rfl (.inl rfl) (pe_call G_law_draw hr (by rfl) g_law_draw K_law_draw b_law_draw .nil pass0 (pa_cons (pv 0) (pa_cons pe_int pa_nil))))
      (Evl.pss_cut (ps_if (PW.pt (pw_and (pt_cmpR op_lt (pv 4) pe_int (nomark _)) (pw_and1 (pt_cmpR (ZE.op_neL0 hu) (pv 2) (pe_lst pa_nil) (nomark _)))))
      (pss_one (ps_ret (pe_tup (pa_cons pe_str (pa_cons (pe_call G_law_pick hr (by rfl) g_law_pick K_law_pick b_law_pick .nil pass0 (pa_cons (pv 0) (pa_cons (pv 2) pa_nil))) pa_nil)))))
      pss_nil)
      (Evl.pss_cut (ps_if (PW.pt (pw_and (pt_cmpR op_eq (pv 4) pe_int (nomark _)) (pw_and1 (pt_val (pv 3)))))
      (pss_one (ps_ret (pe_tup (pa_cons pe_str pa_nil))))
      pss_nil)
      (pss_one (ps_ret (pe_tup (pa_cons pe_str (pa_cons (pe_call G_law_number hr (by rfl) g_law_number K_law_number b_law_number .nil pass0 (pa_cons (pv 0) (pa_cons (pv 1) pa_nil))) pa_nil)))))))), ?_⟩
  have LIM : (10 : Int) ^ 18 = 1000000000000000000 := by decide
  refine ⟨.ref d, rfl, d, c, N, 5, rfl, D, by omega, by decide, by decide, fun H1 way k1 D1 w0 w1 => ?_⟩
  refine ⟨fun σ' H' => σ' = [some (.ref d), some (.ref u), some (.ref sc), some (.bl b), some (.int way)] ∧ Keep d c H H' ∧ Deck H' d c (N + 1), ?_, ?_⟩
  · refine ⟨.int way, rfl, _, _, rfl, rfl, _, rfl, ite2 (fun e => ?_) (fun e => ⟨rfl, k1, D1⟩)⟩
    refine ⟨.ref sc, rfl, Nat.zero_le _, fun l nl => ?_⟩
    have sl := same_upd (o := .lst []) nl
    have S2 := (S.keep k1).keep (Keep.of sl)
    have D2 := D1.same sl
    have k2 := k1.trans (Keep.of sl)
    have hl : upd H1 l (.lst []) l = some (.lst []) := upd_same
    revert hl S2 D2 k2
    clear sl
    generalize upd H1 l (.lst []) = H2
    intro S2 D2 k2 hl
    refine ⟨sc, l, _, rfl, rfl, .inl (.inl S2.at'), .inl (.inl hl), _, rfl, ite2 (fun e => ?_) (fun e => ⟨rfl, k2, D2⟩)⟩
    have hne : scope.map V.str ≠ [] := fun h => by
      rw [h] at e
      cases e
    have hsl := S.len
    refine ⟨.ref d, rfl, .ref sc, rfl, .inl ⟨d, c, sc, _, _, rfl, D2, by omega, .inl (.inl S2.at'), hne, by rw [List.length_map]; omega, S2.n0.1, S2.n0.2, fun H3 v k3 D3 hv => ⟨h1000 (show 2 ≤ 1000 by decide), fun p np => ?_⟩⟩⟩
    obtain ⟨z, hz, rfl⟩ := List.mem_map.mp hv
    have sp := same_upd (o := .tup [.str "var", .str z]) np
    exact q _ _ _ ((k2.trans k3).trans (Keep.of sp)) ((D3.same sp).mono (by omega)) ((tup2 (by decide) (Fine.str (S.nm z hz))).mono (by decide) (by decide)) (fun zs => .var _ _ _ hz) (new_tup (.cons (.str "var") (.cons (.str z) .nil)) rfl np)
  clear k1 D1 w0 w1
  rintro σ' H1 ⟨rfl, k1, D1⟩
  refine ⟨fun σ' H' => σ' = [some (.ref d), some (.ref u), some (.ref sc), some (.bl b), some (.int way)] ∧ Keep d c H H' ∧ Deck H' d c (N + 1), ?_, ?_⟩
  · refine ⟨.int way, rfl, rfl, _, rfl, ite2 (fun e => ?_) (fun e => ⟨rfl, k1, D1⟩)⟩
    refine ⟨.bl b, rfl, b, rfl, ite2 (fun e => ?_) (fun e => ⟨rfl, k1, D1⟩)⟩
    refine ⟨h1000 (show 1 ≤ 1000 by decide), fun p np => ?_⟩
    have sp := same_upd (o := .tup [.str "key"]) np
    subst e
    exact q _ _ _ (k1.trans (Keep.of sp)) ((D1.same sp).mono (by omega)) (fine_key.mono (by decide) (by decide)) (fun zs => .key 0) (new_tup (.cons (.str "key") .nil) rfl np)
  clear k1 D1
  rintro σ' H1 ⟨rfl, k1, D1⟩
  refine ⟨.ref d, rfl, .ref u, rfl, d, c, u, _, ts, cs, ns, rfl, D1, by omega, W.keep k1, fun H2 i k2 D2 h1 h2 => ⟨h1000 (show 2 ≤ 1000 by decide), fun p np => ?_⟩⟩
  have sp := same_upd (o := .tup [.str "int", .int i]) np
  exact q _ _ _ ((k1.trans k2).trans (Keep.of sp)) ((D2.same sp).mono (by omega)) ((tup2 (by decide) (Fine.int h1 h2)).mono (by decide) (by decide)) (fun zs => .int _ _ _ h1 h2) (new_tup (.cons (.str "int") (.cons (.int i) .nil)) rfl np)
end
end L41

namespace L41
open PySem PySem.Spec PyProof.Rows L2 GR
abbrev wdsA : List Str := ["int", "key", "var", "cell", "if", "+", "-", "*", "<", "=", "at", "count", "sum", "most", "first", "in", "let", "need", "tell", "put", "each"]
section
variable {P : Program} {w : World} {K : PySem.W.Frag} {mg : Str → Option Value} {base : Heap}
def sp_expr (K : PySem.W.Frag) (n : Nat) : Sp := fun vs H Q _ => ∃ (d c u sc : Addr) (N deep loose : Int) (ts cs ns scope : List Str), vs = [.ref d, .ref u, .int deep, .ref sc, .int loose] ∧ Deck H d c N ∧ N + dx n < 2 ^ 54 ∧ AtW H d c u ts cs ns ∧ Scp H d c sc scope ∧
  deep ≤ (n : Int) ∧ 0 ≤ loose ∧ loose ≤ 2 ∧ ∀ H' v x, Keep d c H H' → Deck H' d c (N + dx n) → Fine (n + 3) (em n) x → Cx (nmx loose ts cs) scope (decide (0 < loose)) (n + 2) x → Dp K H' v x → Q v H'
def sp_agg (K : PySem.W.Frag) (n : Nat) : Sp := fun vs H Q _ => ∃ (d c u sc : Addr) (N deep : Int) (ts cs ns scope : List Str), vs = [.ref d, .ref u, .int deep, .ref sc] ∧ Deck H d c N ∧ N + 2 + 3 * dx n < 2 ^ 54 ∧ AtW H d c u ts cs ns ∧ Scp H d c sc scope ∧
  deep - 1 ≤ (n : Int) ∧ ∀ H' v x, Keep d c H H' → Deck H' d c (N + 2 + 3 * dx n) → Fine (n + 4) (em (n + 1)) x → Cx (nmx 1 ts cs) scope false (n + 3) x → Dp K H' v x → Q v H'
/-- an aggregate under way: its word, its table, what it holds so far -/
structure Ag (K : PySem.W.Frag) (H : Hp) (n : Nat) (zs sc : List Str) (o t : Str) (v : V) (va da : List PyData) (x5 : PyData) : Prop where
  tup : ∃ (z3 z0 z2 : Addr) (v5 : V) (us : List V), v = .ref z3 ∧ H z3 = some (.tup ([.str o, .str t, .ref z0, .ref z2, v5] ++ us)) ∧ DpAll K H ([.str o, .str t, .ref z0, .ref z2, v5] ++ us) (([.str o, .str t, .tuple [], rowX t, x5] : List PyData) ++ (va ++ da)) ∧ us.length = va.length + da.length
  fin : ∃ L, L ≤ em n * (va.length + da.length) ∧ Fines (n + 3) L (va ++ da)
  f5 : Fine (n + 3) (em n) x5
  c5 : Cx zs sc true (n + 2) x5
  cv : ∀ x, x ∈ va → Cx zs sc true (n + 2) x
  cd : ∀ x, x ∈ da → Cx zs sc false (n + 2) x
  le : va.length + da.length ≤ 2
theorem rowX_fine {t : Str} (h : Nm t) : Fine 2 121 (rowX t) := ((Fines.cons (Fine.word (w := "cell") (by decide)).k0 (.cons (Fine.str h).k0 (.cons fine_key (.cons (Fine.word (w := "in") (by decide)).k0 .nil)))).tup).mono (Nat.le_refl _) (by decide)
theorem Ag.fines {K : PySem.W.Frag} {H : Hp} {n : Nat} {zs sc : List Str} {o t : Str} {v : V} {va da : List PyData} {x5 : PyData} (A : Ag K H n zs sc o t v va da x5) (ho : o ∈ wdsA) (ht : Nm t) :
    ∃ L, L ≤ 219 + em n + em n * (va.length + da.length) ∧ Fines (n + 3) L (([.str o, .str t, .tuple [], rowX t, x5] : List PyData) ++ (va ++ da)) := by
  obtain ⟨L, hL, hf⟩ := A.fin
  have fE : Fine 1 5 (.tuple []) := (Fines.nil (k := 0)).tup
  have FS : Fines (n + 3) (9 + (84 + (5 + (121 + (em n + 0))))) [.str o, .str t, .tuple [], rowX t, x5] := .cons (Fine.word ho).k0 (.cons (Fine.str ht).k0 (.cons (fE.mono (by omega) (Nat.le_refl _)) (.cons ((rowX_fine ht).mono (by omega) (Nat.le_refl _)) (.cons A.f5 .nil))))
  exact ⟨_, by omega, FS.append hf⟩
theorem Ag.keep {K : PySem.W.Frag} {H H' : Hp} {n : Nat} {zs sc : List Str} {o t : Str} {v : V} {va da : List PyData} {x5 : PyData} (A : Ag K H n zs sc o t v va da x5) (ho : o ∈ wdsA) (ht : Nm t) (k : KeepT H H') : Ag K H' n zs sc o t v va da x5 := by
  obtain ⟨z3, z0, z2, v5, us, rfl, h1, h2, h3⟩ := A.tup
  obtain ⟨L, _, hf⟩ := A.fines ho ht
  exact ⟨⟨z3, z0, z2, v5, us, rfl, k.1 _ _ h1, dp_keepAll k _ _ hf.all.1 h2, h3⟩, A.fin, A.f5, A.c5, A.cv, A.cd, A.le⟩
/-- one more part -/
theorem Ag.more {K : PySem.W.Frag} {H H' : Hp} {n : Nat} {zs sc : List Str} {o t : Str} {v v6 : V} {va da va' da' : List PyData} {x5 x6 : PyData} {q : Addr} {us0 : List V} (A : Ag K H n zs sc o t v va da x5) (ho : o ∈ wdsA) (ht : Nm t) (k : KeepT H H')
    (hv : ∃ z3, v = .ref z3 ∧ H z3 = some (.tup us0)) (hq : H' q = some (.tup (us0 ++ [v6]))) (p6 : Dp K H' v6 x6) (f6 : Fine (n + 3) (em n) x6) (e : va' ++ da' = (va ++ da) ++ [x6]) (el : va'.length + da'.length = va.length + da.length + 1) (hl : va.length + da.length ≤ 1)
    (cv : ∀ x, x ∈ va' → Cx zs sc true (n + 2) x) (cd : ∀ x, x ∈ da' → Cx zs sc false (n + 2) x) : Ag K H' n zs sc o t (.ref q) va' da' x5 := by
  obtain ⟨z3, z0, z2, v5, us, rfl, h1, h2, h3⟩ := A.tup
  obtain ⟨z3', e3, h1'⟩ := hv
  cases e3
  rw [h1] at h1'
  cases h1'
  obtain ⟨L, _, hf⟩ := A.fines ho ht
  obtain ⟨L2, hL2, hf2⟩ := A.fin
  have h2' := dp_keepAll k _ _ hf.all.1 h2
  refine ⟨⟨q, z0, z2, v5, us ++ [v6], rfl, by rw [← List.append_assoc]; exact hq, ?_, by rw [List.length_append, h3, el]; rfl⟩, ⟨L2 + (em n + 0), ?_, ?_⟩, A.f5, A.c5, cv, cd, by omega⟩
  · rw [e, ← List.append_assoc, ← List.append_assoc]
    exact dpAll_append h2' (.cons p6 .nil)
  · rw [el, Nat.mul_add]
    omega
  · rw [e]
    exact hf2.append (.cons f6 .nil)
theorem ok_agg {n : Nat} {f f_ex f_law_pick f_cell : Addr} {fd d_ex fd_law_pick fd_cell : FuncData} {k : Nat} (F : Fun K "_law_aggregate" "_law_aggregate" s_law_aggregate f fd)
    (G_law_pick : FnOk P w K mg base CX0 k f_law_pick fd_law_pick ["_law_deck_here", "_law_some"] (sp_pick K))
    (g_law_pick : mg "_law_pick" = some (.ref f_law_pick)) (K_law_pick : PySem.W.keepIn K (.ref f_law_pick) = true) (b_law_pick : Binds K fd_law_pick ["_law_deck_here", "_law_some"] [])
    (G_cell : FnOk P w K mg base CX0 k f_cell fd_cell ps_ce sp_cell) (g_cell : mg "_law_cell" = some (.ref f_cell)) (K_cell : PySem.W.keepIn K (.ref f_cell) = true) (b_cell : Binds K fd_cell ps_ce [])
    (G : FnOk P w K mg base CX0 k f_ex d_ex ps_ex (sp_expr K n)) (g : mg "_law_expression" = some (.ref f_ex)) (Kf : PySem.W.keepIn K (.ref f_ex) = true) (b : Binds K d_ex ps_ex []) : FnOk P w K mg base CX0 (k + 1) f fd ps_ag (sp_agg K n) := by
  have nd := sc_law_aggregate.nd
  refine F.ok sc_law_aggregate (fun vs H Q E h => ?_) (fun cdv A outer s H vs Q E hr h => ?_)
  · obtain ⟨d, c, u, sc, N, deep, ts, cs, ns, scope, rfl, _⟩ := h
    rfl
  obtain ⟨d, c, u, sc, N, deep, ts, cs, ns, scope, rfl, D, hN, W, S, hdeep, q⟩ := h
  have hp := dx_pos n
  have hu1 : (A.deeper (envOfC "_law_aggregate" (defScope s_law_aggregate) s.heap.objs.size f cdv)).units + 1 < cLine := by
    have := hr.units
    omega
  refine ⟨_, (pss_cons (ps_set (i := 4) nd rfl (.inl rfl) (pe_call G_law_pick hr (by rfl) g_law_pick K_law_pick b_law_pick .nil pass0 (pa_cons (pv 0) (pa_cons (pe_dget hu1 (pv 1) pe_str noSl_str) pa_nil))))
      (pss_cons (ps_set (i := 5) nd rfl (.inl rfl) (pe_call G_law_pick hr (by rfl) g_law_pick K_law_pick b_law_pick .nil pass0 (pa_cons (pv 0) (pa_cons (pe_lst (pa_cons pe_str (pa_cons pe_str (pa_cons pe_str (pa_cons pe_str pa_nil))))) pa_nil))))
      (Evl.pss_cut (ps_set (i := 6) nd rfl (.inl rfl) (pe_tup (pa_cons (pv 5) (pa_cons (pv 4) (pa_cons (pe_tup pa_nil) (pa_cons (pe_call G_cell hr (by rfl) g_cell K_cell b_cell .nil pass0 (pa_cons (pv 4) (pa_cons (pe_tup (pa_cons pe_str pa_nil)) (pa_cons pe_str pa_nil)))) (pa_cons (pe_call G hr (by rfl) g Kf b .nil pass0 (pa_cons (pv 0) (pa_cons (pv 1) (pa_cons (pe_op op_sub (pv 2) pe_int) (pa_cons (pv 3) (pa_cons pe_int pa_nil)))))) pa_nil)))))))
      (Evl.pss_cut (ps_if (pt_cmpR op_in_seq (pv 5) (pe_tup (pa_cons pe_str (pa_cons pe_str pa_nil))) (by rfl))
      (pss_one (ps_set (i := 6) nd rfl (.inl rfl) (pe_op op_catT (pv 6) (pe_tup (pa_cons (pe_call G hr (by rfl) g Kf b .nil pass0 (pa_cons (pv 0) (pa_cons (pv 1) (pa_cons (pe_op op_sub (pv 2) pe_int) (pa_cons (pv 3) (pa_cons pe_int pa_nil)))))) pa_nil)))))
      pss_nil)
      (Evl.pss_cut (ps_if (pt_cmpR op_in_seq (pv 5) (pe_tup (pa_cons pe_str (pa_cons pe_str pa_nil))) (by rfl))
      (pss_one (ps_set (i := 6) nd rfl (.inl rfl) (pe_op op_catT (pv 6) (pe_tup (pa_cons (pe_call G hr (by rfl) g Kf b .nil pass0 (pa_cons (pv 0) (pa_cons (pv 1) (pa_cons (pe_op op_sub (pv 2) pe_int) (pa_cons (pv 3) (pa_cons pe_int pa_nil)))))) pa_nil)))))
      pss_nil)
      (pss_one (ps_ret (pv 6)))))))), ?_⟩
  obtain ⟨tl, cl, nl, kl, ks, W0⟩ := W
  refine ⟨.ref d, rfl, .ref u, rfl, u, .ref tl, rfl, ?_, .inl ⟨d, c, tl, _, _, rfl, D, by omega, .inl (.inl W0.ht), ?_, ?_, W0.t0.1, W0.t0.2, fun H2 vt k2 D2 hvt => ?_⟩⟩
  · rw [← wD_t tl cl nl kl]
    exact DGet.k (k := .inr "tables") W0.dct
  · intro e
    have := congrArg List.length e
    rw [List.length_map, W0.lt] at this
    cases this
  · rw [List.length_map, W0.lt]
    decide
  obtain ⟨t, ht, rfl⟩ := List.mem_map.mp hvt
  have nt := W0.at' t ht
  have W : AtW H d c u ts cs ns := ⟨tl, cl, nl, kl, ks, W0⟩
  clear W0
  refine ⟨.ref d, rfl, h1000 (show 4 ≤ 1000 by decide), fun l nl => ?_⟩
  have sl := same_upd (o := .lst [.str "count", .str "sum", .str "most", .str "first"]) nl
  have hln := D2.new nl
  refine .inl ⟨d, c, l, _, [.str "count", .str "sum", .str "most", .str "first"], rfl, D2.same sl, by omega, .inl (.inl upd_same), List.cons_ne_nil _ _, (show 4 ≤ 1000 by decide), hln.1, hln.2, fun H3 vo k3 D3 hvo => ?_⟩
  obtain ⟨o, ho4, rfl⟩ : ∃ o : Str, (o = "count" ∨ o = "sum" ∨ o = "most" ∨ o = "first") ∧ vo = .str o := by
    simp only [List.mem_cons, List.not_mem_nil, or_false] at hvo
    rcases hvo with rfl | rfl | rfl | rfl
    · exact ⟨_, .inl rfl, rfl⟩
    · exact ⟨_, .inr (.inl rfl), rfl⟩
    · exact ⟨_, .inr (.inr (.inl rfl)), rfl⟩
    · exact ⟨_, .inr (.inr (.inr rfl)), rfl⟩
  have ho : o ∈ wdsA := by
    rcases ho4 with rfl | rfl | rfl | rfl <;> decide
  have k03 : Keep d c H H3 := (k2.trans (Keep.of sl)).trans k3
  clear k2 D2 sl hln k3 nl
  refine ⟨fun σ' H' => ∃ v x5, σ' = [some (.ref d), some (.ref u), some (.int deep), some (.ref sc), some (.str t), some (.str o), some v] ∧ Keep d c H H' ∧ Deck H' d c (N + 2 + dx n) ∧ Ag K H' n (nmx 1 ts cs) scope o t v [] [] x5, ?_, ?_⟩
  · refine ⟨.str o, rfl, .str t, rfl, Nat.zero_le _, fun z0 m0 => ⟨.str t, rfl, h1000 (show 1 ≤ 1000 by decide), fun z1 m1 => ⟨.str t, .ref z1, .str "in", rfl, fun z2 m2 => ?_⟩⟩⟩
    have t0 := same_upd (o := .tup []) m0
    have t1 := same_upd (o := .tup [.str "key"]) m1
    have t2 := same_upd (o := .tup [.str "cell", .str t, .ref z1, .str "in"]) m2
    have b0 : Dp K (upd H3 z0 (.tup [])) (.ref z0) (.tuple []) := .tup (.inl (.inl upd_same)) .nil
    have b1 := new_tup (K := K) (.cons (.str "key") .nil) rfl m1
    have b2 : Dp K _ (.ref z2) (rowX t) := new_tup (K := K) (.cons (.str "cell") (.cons (.str t) (.cons b1 (.cons (.str "in") .nil)))) rfl m2
    have b0' := dp_keep (KeepT.of (t1.trans t2)) _ _ rfl b0
    have t02 := (t0.trans t1).trans t2
    clear t0 t1 t2 b0 b1 m0 m1 m2
    revert b0' b2 t02
    generalize upd (upd (upd H3 z0 (.tup [])) z1 (.tup [.str "key"])) z2 (.tup [.str "cell", .str t, .ref z1, .str "in"]) = H4
    intro b2 b0' t02
    have k04 := k03.trans (Keep.of t02)
    have D4 := D3.same t02
    refine ⟨.ref d, rfl, .ref u, rfl, .int deep, rfl, deep, 1, rfl, rfl, .ref sc, rfl, d, c, u, sc, _, deep - 1, 1, ts, cs, ns, scope, rfl, D4, by omega, W.keep k04, S.keep k04, by omega, by decide, by decide, fun H5 v5 x5 k5 D5 f5 c5 p5 => ⟨h1000 (show 5 ≤ 1000 by decide), fun z3 m3 => ?_⟩⟩
    have t3 := same_upd (o := .tup [.str o, .str t, .ref z0, .ref z2, v5]) m3
    have kt5 := (k5.t D4).trans (KeepT.of t3)
    refine ⟨_, x5, rfl, (k04.trans k5).trans (Keep.of t3), (D5.same t3).mono (by omega), ⟨⟨z3, z0, z2, v5, [], rfl, upd_same, ?_, rfl⟩, ⟨0, Nat.zero_le _, .nil⟩, f5, c5, (fun x hx => (nomatch hx)), (fun x hx => (nomatch hx)), (by decide)⟩⟩
    exact .cons (.str _) (.cons (.str _) (.cons (dp_keep kt5 _ _ rfl b0') (.cons (dp_keep kt5 _ _ (rowX_fine nt).flat b2) (.cons (dp_keep (KeepT.of t3) _ _ f5.flat p5) .nil))))
  clear k03 D3
  rintro σ' H3 ⟨v, x5, rfl, k03, D3, A0⟩
  -- the values
  refine ⟨fun σ' H' => ∃ v va, σ' = [some (.ref d), some (.ref u), some (.int deep), some (.ref sc), some (.str t), some (.str o), some v] ∧ Keep d c H H' ∧ Deck H' d c (N + 2 + 2 * dx n) ∧ Ag K H' n (nmx 1 ts cs) scope o t v va [] x5 ∧ va.length = (if o = "sum" ∨ o = "most" then 1 else 0), ?_, ?_⟩
  · refine ⟨.str o, rfl, h1000 (show 2 ≤ 1000 by decide), fun l nl => ⟨l, _, rfl, .inr (.inl (.inl upd_same)), rfl, rfl, ?_⟩⟩
    have sl := same_upd (o := .tup [.str "sum", .str "most"]) nl
    have A1 := A0.keep ho nt (KeepT.of sl)
    have D4 := D3.same sl
    have k04 := k03.trans (Keep.of sl)
    revert A1 D4 k04
    clear sl
    generalize upd H3 l (.tup [.str "sum", .str "most"]) = H4
    intro A1 D4 k04
    have e0 : inV (.str o) [.str "sum", .str "most"] = decide (o = "sum" ∨ o = "most") := by
      rcases ho4 with rfl | rfl | rfl | rfl <;> rfl
    refine ⟨_, rfl, ite2 (fun e1 => ?_) (fun e1 => ?_)⟩
    · have e2 : o = "sum" ∨ o = "most" := of_decide_eq_true (e0.symm.trans e1)
      refine ⟨v, rfl, .ref d, rfl, .ref u, rfl, .int deep, rfl, deep, 1, rfl, rfl, .ref sc, rfl, d, c, u, sc, _, deep - 1, 1, ts, cs, ns, scope, rfl, D4, by omega, W.keep k04, S.keep k04, by omega, by decide, by decide, fun H5 v6 x6 k5 D5 f6 c6 p6 => ⟨h1000 (show 1 ≤ 1000 by decide), fun y0 j0 => ?_⟩⟩
      have s5 := same_upd (o := .tup [v6]) j0
      obtain ⟨z3, z0, z2, v5, us, rfl, h1, h2, h3⟩ := (A1.keep ho nt ((k5.t D4).trans (KeepT.of s5))).tup
      have lus : us.length = 0 := h3
      refine ⟨z3, y0, _, _, rfl, rfl, .inl (.inl h1), .inl (.inl upd_same), List.cons_ne_nil _ _, h1000 (by rw [List.length_append]; show 5 + us.length + 1 ≤ 1000; omega), fun e => absurd e (List.cons_ne_nil _ _), fun _ pp np => ?_⟩
      have s6 := same_upd (o := .tup (([.str o, .str t, .ref z0, .ref z2, v5] ++ us) ++ [v6])) np
      have A5 := A1.keep ho nt ((k5.t D4).trans (KeepT.of s5))
      exact ⟨_, [x6], rfl, ((k04.trans k5).trans (Keep.of s5)).trans (Keep.of s6), ((D5.same s5).same s6).mono (by omega), A5.more ho nt (KeepT.of s6) ⟨z3, rfl, h1⟩ upd_same (dp_keep ((KeepT.of s5).trans (KeepT.of s6)) _ _ f6.flat p6) f6 rfl rfl (by decide) (fun x hx => by rw [List.mem_singleton.mp hx]; exact c6) (fun x hx => (nomatch hx)), (if_pos e2).symm⟩
    · have e2 : ¬ (o = "sum" ∨ o = "most") := fun h => e1 (e0.trans (decide_eq_true h))
      exact ⟨v, [], rfl, k04, D4.mono (by omega), A1, (if_neg e2).symm⟩
  clear A0 k03 D3
  rintro σ' H3 ⟨v, va, rfl, k03, D3, A0, hva⟩
  have lva : va.length ≤ 1 := by
    rw [hva]
    split <;> omega
  -- the default
  refine ⟨fun σ' H' => ∃ v da, σ' = [some (.ref d), some (.ref u), some (.int deep), some (.ref sc), some (.str t), some (.str o), some v] ∧ Keep d c H H' ∧ Deck H' d c (N + 2 + 3 * dx n) ∧ Ag K H' n (nmx 1 ts cs) scope o t v va da x5 ∧ da.length = (if o = "most" ∨ o = "first" then 1 else 0), ?_, ?_⟩
  · refine ⟨.str o, rfl, h1000 (show 2 ≤ 1000 by decide), fun l nl => ⟨l, _, rfl, .inr (.inl (.inl upd_same)), rfl, rfl, ?_⟩⟩
    have sl := same_upd (o := .tup [.str "most", .str "first"]) nl
    have A1 := A0.keep ho nt (KeepT.of sl)
    have D4 := D3.same sl
    have k04 := k03.trans (Keep.of sl)
    revert A1 D4 k04
    clear sl
    generalize upd H3 l (.tup [.str "most", .str "first"]) = H4
    intro A1 D4 k04
    have e0 : inV (.str o) [.str "most", .str "first"] = decide (o = "most" ∨ o = "first") := by
      rcases ho4 with rfl | rfl | rfl | rfl <;> rfl
    refine ⟨_, rfl, ite2 (fun e1 => ?_) (fun e1 => ?_)⟩
    · have e2 : o = "most" ∨ o = "first" := of_decide_eq_true (e0.symm.trans e1)
      refine ⟨v, rfl, .ref d, rfl, .ref u, rfl, .int deep, rfl, deep, 1, rfl, rfl, .ref sc, rfl, d, c, u, sc, _, deep - 1, 0, ts, cs, ns, scope, rfl, D4, by omega, W.keep k04, S.keep k04, by omega, by decide, by decide, fun H5 v6 x6 k5 D5 f6 c6 p6 => ⟨h1000 (show 1 ≤ 1000 by decide), fun y0 j0 => ?_⟩⟩
      have s5 := same_upd (o := .tup [v6]) j0
      obtain ⟨z3, z0, z2, v5, us, rfl, h1, h2, h3⟩ := (A1.keep ho nt ((k5.t D4).trans (KeepT.of s5))).tup
      have lus : us.length ≤ 1 := by rw [h3]; exact lva
      refine ⟨z3, y0, _, _, rfl, rfl, .inl (.inl h1), .inl (.inl upd_same), List.cons_ne_nil _ _, h1000 (by rw [List.length_append]; show 5 + us.length + 1 ≤ 1000; omega), fun e => absurd e (List.cons_ne_nil _ _), fun _ pp np => ?_⟩
      have s6 := same_upd (o := .tup (([.str o, .str t, .ref z0, .ref z2, v5] ++ us) ++ [v6])) np
      have A5 := A1.keep ho nt ((k5.t D4).trans (KeepT.of s5))
      exact ⟨_, [x6], rfl, ((k04.trans k5).trans (Keep.of s5)).trans (Keep.of s6), ((D5.same s5).same s6).mono (by omega), A5.more ho nt (KeepT.of s6) ⟨z3, rfl, h1⟩ upd_same (dp_keep ((KeepT.of s5).trans (KeepT.of s6)) _ _ f6.flat p6) f6 (by rw [List.append_nil]) rfl lva A1.cv (fun x hx => by rw [List.mem_singleton.mp hx]; exact c6), (if_pos e2).symm⟩
    · have e2 : ¬ (o = "most" ∨ o = "first") := fun h => e1 (e0.trans (decide_eq_true h))
      exact ⟨v, [], rfl, k04, D4.mono (by omega), A1, (if_neg e2).symm⟩
  clear A0 k03 D3
  rintro σ' H3 ⟨v, da, rfl, k03, D3, A0, hda⟩
  have hak : (o, va.length, da.length) ∈ aggk := by
    rw [hva, hda]
    rcases ho4 with rfl | rfl | rfl | rfl <;> decide
  obtain ⟨L, hL, hf⟩ := A0.fines ho nt
  have hll := A0.le
  have hem : em (n + 1) = 3 * em n + 240 := rfl
  have hmul : em n * (va.length + da.length) ≤ em n * 2 := Nat.mul_le_mul_left _ hll
  obtain ⟨z3, z0, z2, v5, us, rfl, h1, h2, h3⟩ := A0.tup
  have hin : ("#" : Str) ∈ nmx 1 ts cs := List.mem_cons_of_mem _ (List.mem_append_right _ (List.mem_append_right _ mark_in))
  have CA := Cx.agg (zs := nmx 1 ts cs) (sc := scope) false (n + 2) o t x5 [] va da hin (by omega) hak ⟨List.mem_cons_of_mem _ (List.mem_append_left _ ht), nm_hash nt⟩ (Nat.zero_le _) (fun x hx => (nomatch hx)) A0.c5 A0.cv A0.cd
  exact ⟨.ref z3, rfl, q _ _ _ k03 D3 (hf.tup.mono (by omega) (by omega)) CA (.tup (.inl (.inl h1)) h2)⟩
end
end L41

namespace L41
open PySem PySem.Spec PyProof.Rows L2 GR
section
variable {P : Program} {w : World} {K : PySem.W.Frag} {mg : Str → Option Value} {base : Heap}
theorem ok_expr_step {n : Nat} {f f_law_draw f_law_pick f_leaf f_cell f_agg : Addr} {fd fd_law_draw fd_law_pick d_leaf d_cell d_agg : FuncData} {k : Nat} (F : Fun K "_law_expression" "_law_expression" s_law_expression f fd) (G_law_draw : FnOk P w K mg base CX0 k f_law_draw fd_law_draw ["_law_deck_here", "_law_most"] sp_draw)
    (g_law_draw : mg "_law_draw" = some (.ref f_law_draw)) (K_law_draw : PySem.W.keepIn K (.ref f_law_draw) = true) (b_law_draw : Binds K fd_law_draw ["_law_deck_here", "_law_most"] [])
    (G_law_pick : FnOk P w K mg base CX0 k f_law_pick fd_law_pick ["_law_deck_here", "_law_some"] (sp_pick K))
    (g_law_pick : mg "_law_pick" = some (.ref f_law_pick)) (K_law_pick : PySem.W.keepIn K (.ref f_law_pick) = true) (b_law_pick : Binds K fd_law_pick ["_law_deck_here", "_law_some"] [])
    (G_leaf : FnOk P w K mg base CX0 k f_leaf d_leaf ps_lf (sp_leaf K)) (g_leaf : mg "_law_leaf" = some (.ref f_leaf)) (K_leaf : PySem.W.keepIn K (.ref f_leaf) = true) (b_leaf : Binds K d_leaf ps_lf [])
    (G_cell : FnOk P w K mg base CX0 k f_cell d_cell ps_ce sp_cell) (g_cell : mg "_law_cell" = some (.ref f_cell)) (K_cell : PySem.W.keepIn K (.ref f_cell) = true) (b_cell : Binds K d_cell ps_ce [])
    (G_agg : FnOk P w K mg base CX0 k f_agg d_agg ps_ag (fun vs H Q E => ∃ m, n = m + 1 ∧ sp_agg K m vs H Q E)) (g_agg : mg "_law_aggregate" = some (.ref f_agg)) (K_agg : PySem.W.keepIn K (.ref f_agg) = true) (b_agg : Binds K d_agg ps_ag [])
    (G : FnOk P w K mg base CX0 k f fd ps_ex (fun vs H Q E => ∃ m, n = m + 1 ∧ sp_expr K m vs H Q E)) (g : mg "_law_expression" = some (.ref f)) (Kf : PySem.W.keepIn K (.ref f) = true) (b : Binds K fd ps_ex [])
    (mmax : mg "max" = none) : FnOk P w K mg base CX0 (k + 1) f fd ps_ex (sp_expr K n) := by
  have nd := sc_law_expression.nd
  refine F.ok sc_law_expression (fun vs H Q E h => ?_) (fun cdv A outer s H vs Q E hr h => ?_)
  · obtain ⟨d, c, u, sc, N, deep, loose, ts, cs, ns, scope, rfl, _⟩ := h
    rfl
  obtain ⟨d, c, u, sc, N, deep, loose, ts, cs, ns, scope, rfl, D, hN, W, S, hdeep, hl0, hl2, q⟩ := h
  have hp := dx_pos n
  have hu1 : (A.deeper (envOfC "_law_expression" (defScope s_law_expression) s.heap.objs.size f cdv)).units + 1 < cLine := by
    have := hr.units
    omega
  refine ⟨_, (pss_cons (ps_set (i := 5) nd rfl (.inl rfl) (pe_call G_law_draw hr (by rfl) g_law_draw K_law_draw b_law_draw .nil pass0 (pa_cons (pv 0) (pa_cons pe_int pa_nil))))
      (Evl.pss_cut (ps_if (PW.pt (pw_or (pt_cmpR op_lt (pv 2) pe_int (nomark _)) (pw_or1 (pt_cmpR op_lt (pv 5) pe_int (nomark _)))))
      (pss_one (ps_ret (pe_call G_leaf hr (by rfl) g_leaf K_leaf b_leaf .nil pass0 (pa_cons (pv 0) (pa_cons (pv 1) (pa_cons (pv 3) (pa_cons (pe_cmpR op_gt (pv 4) pe_int (nomark _)) pa_nil)))))))
      pss_nil)
      (pss_cons (ps_set (i := 6) nd rfl (.inl rfl) (pe_call G hr (by rfl) g Kf b .nil pass0 (pa_cons (pv 0) (pa_cons (pv 1) (pa_cons (pe_op op_sub (pv 2) pe_int) (pa_cons (pv 3) (pa_cons (pv 4) pa_nil)))))))
      (Evl.pss_cut (ps_set (i := 7) nd rfl (.inl rfl) (pe_ifExp (pt_cmpR op_eq (pv 4) pe_int (nomark _)) (pe_call G_leaf hr (by rfl) g_leaf K_leaf b_leaf .nil pass0 (pa_cons (pv 0) (pa_cons (pv 1) (pa_cons (pv 3) (pa_cons pe_bl pa_nil))))) (pv 6)))
      (pss_cons (ps_if (pt_cmpR op_lt (pv 5) pe_int (nomark _))
      (pss_one (ps_ret (pe_call G_cell hr (by rfl) g_cell K_cell b_cell .nil pass0 (pa_cons (pe_call G_law_pick hr (by rfl) g_law_pick K_law_pick b_law_pick .nil pass0 (pa_cons (pv 0) (pa_cons (pe_dget hu1 (pv 1) pe_str noSl_str) pa_nil))) (pa_cons (pv 7) (pa_cons (pe_call G_law_pick hr (by rfl) g_law_pick K_law_pick b_law_pick .nil pass0 (pa_cons (pv 0) (pa_cons (pe_dget hu1 (pv 1) pe_str noSl_str) pa_nil))) pa_nil))))))
      pss_nil)
      (Evl.pss_cut (ps_if (PW.pt (pw_and (pt_cmpR op_eq (pv 5) pe_int (nomark _)) (pw_and1 (pt_cmpR op_lt (pv 4) pe_int (nomark _)))))
      (pss_one (ps_ret (pe_call G_agg hr (by rfl) g_agg K_agg b_agg .nil pass0 (pa_cons (pv 0) (pa_cons (pv 1) (pa_cons (pv 2) (pa_cons (pv 3) pa_nil)))))))
      pss_nil)
      (pss_cons (ps_set (i := 8) nd rfl (.inl rfl) (pe_call G hr (by rfl) g Kf b .nil pass0 (pa_cons (pv 0) (pa_cons (pv 1) (pa_cons (pe_op op_sub (pv 2) pe_int) (pa_cons (pv 3) (pa_cons (pv 4) pa_nil)))))))
      (pss_cons (ps_if (pt_cmpR op_lt (pv 5) pe_int (nomark _))
      (pss_one (ps_ret (pe_tup (pa_cons (pe_call G_law_pick hr (by rfl) g_law_pick K_law_pick b_law_pick .nil pass0 (pa_cons (pv 0) (pa_cons (pe_lst (pa_cons pe_str (pa_cons pe_str (pa_cons pe_str (pa_cons pe_str (pa_cons pe_str (pa_cons pe_str pa_nil))))))) pa_nil))) (pa_cons (pv 6) (pa_cons (pv 8) pa_nil))))))
      pss_nil)
      (pss_cons (ps_if (pt_cmpR op_eq (pv 5) pe_int (nomark _))
      (pss_one (ps_ret (pe_tup (pa_cons pe_str (pa_cons (pv 7) (pa_cons (pe_call G hr (by rfl) g Kf b .nil pass0 (pa_cons (pv 0) (pa_cons (pv 1) (pa_cons (pe_op op_sub (pv 2) pe_int) (pa_cons (pv 3) (pa_cons (pe_callB (call_max2 rfl) (by rfl) mmax boot_max (pa_cons pe_int (pa_cons (pv 4) pa_nil))) pa_nil)))))) pa_nil))))))
      pss_nil)
      (pss_one (ps_ret (pe_tup (pa_cons pe_str (pa_cons (pv 6) (pa_cons (pv 8) (pa_cons (pe_call G hr (by rfl) g Kf b .nil pass0 (pa_cons (pv 0) (pa_cons (pv 1) (pa_cons (pe_op op_sub (pv 2) pe_int) (pa_cons (pv 3) (pa_cons (pv 4) pa_nil)))))) pa_nil)))))))))))))))), ?_⟩
  have LIM : (10 : Int) ^ 18 = 1000000000000000000 := by decide
  refine ⟨.ref d, rfl, d, c, N, 12, rfl, D, by omega, by decide, by decide, fun H1 way k1 D1 w0 w1 => ?_⟩
  refine ⟨fun σ' H' => σ' = [some (.ref d), some (.ref u), some (.int deep), some (.ref sc), some (.int loose), some (.int way), none, none, none] ∧ H' = H1 ∧ ¬ deep < 1, ?_, ?_⟩
  · have leaf : ∀ H' v x, Keep d c H1 H' → Deck H' d c (N + 1 + 5) → Fine 3 100 x → (∀ zs, Cx zs scope (decide (loose > 0)) 1 x) → Dp K H' v x → Q v H' := fun H' v x k' D' f' c' p' =>
      q H' v x (k1.trans k') (D'.mono (by omega)) (f'.mono (by omega) (em_pos n)) ((c' _).mono (by omega)) p'
    refine ⟨.int deep, rfl, _, _, rfl, rfl, _, rfl, iteA ?leaf (fun e => ⟨.int way, rfl, _, _, rfl, rfl, _, rfl, ite2 (fun _ => ?leaf) (fun e2 => ⟨rfl, rfl, by simpa using e⟩)⟩)⟩
    exact ⟨.ref d, rfl, .ref u, rfl, .ref sc, rfl, .int loose, rfl, _, _, rfl, rfl, d, c, u, sc, _, _, ts, cs, ns, scope, rfl, D1, by omega, W.keep k1, S.keep k1, leaf⟩
  rintro σ' _ ⟨rfl, rfl, e⟩
  obtain ⟨m, rfl⟩ : ∃ m, n = m + 1 := ⟨n - 1, by omega⟩
  have hdx : dx (m + 1) = 30 + 6 * dx m := rfl
  have hem : em (m + 1) = 3 * em m + 240 := rfl
  have hpm := dx_pos m
  have hme := em_pos m
  -- one
  refine ⟨.ref d, rfl, .ref u, rfl, .int deep, rfl, deep, 1, rfl, rfl, .ref sc, rfl, .int loose, rfl, m, rfl, d, c, u, sc, _, deep - 1, loose, ts, cs, ns, scope, rfl, D1, by omega, W.keep k1, S.keep k1, by omega, hl0, hl2, fun H3 v1 x1 k3 D3x f1 c1 p1 => ?_⟩
  have k03 := k1.trans k3
  -- near
  refine ⟨fun σ' H' => ∃ vn xn, σ' = [some (.ref d), some (.ref u), some (.int deep), some (.ref sc), some (.int loose), some (.int way), some v1, some vn, none] ∧ Keep d c H H' ∧ Deck H' d c (N + 6 + dx m) ∧ Dp K H' v1 x1 ∧ Dp K H' vn xn ∧ Fine (m + 3) (em m) xn ∧ Cx (nmx loose ts cs) scope (decide (0 < loose)) (m + 2) xn, ?_, ?_⟩
  · refine ⟨.int loose, rfl, rfl, _, rfl, ite2 (fun e3 => ?_) (fun e3 => ?_)⟩
    · refine ⟨.ref d, rfl, .ref u, rfl, .ref sc, rfl, d, c, u, sc, _, true, ts, cs, ns, scope, rfl, D3x, by omega, W.keep k03, S.keep k03, fun H4 vn xn k4 D4 fn cn pn => ?_⟩
      have hl : 0 < loose := by
        have := of_decide_eq_true e3
        injection this with this
        omega
      exact ⟨vn, xn, rfl, k03.trans k4, D4.mono (by omega), dp_keep (k4.t D3x) _ _ f1.flat p1, pn, fn.mono (by omega) (em_pos m), by rw [decide_eq_true hl]; exact (cn _).mono (by omega)⟩
    · exact ⟨v1, rfl, v1, x1, rfl, k03, D3x.mono (by omega), p1, p1, f1, c1⟩
  clear k03 D3x p1 k3
  rintro σ' H4 ⟨vn, xn, rfl, k04, D4, p14, pn4, fn, cn⟩
  have W4 := W.keep k04
  have S4 := S.keep k04
  refine ⟨.int way, rfl, _, _, rfl, rfl, _, rfl, ite2 (fun e4 => ?_) (fun e4 => ?_)⟩
  · obtain ⟨tl, cl, nl, kl, ks, W4⟩ := W4
    refine ⟨.ref d, rfl, .ref u, rfl, u, .ref tl, rfl, ?_, .inl ⟨d, c, tl, _, _, rfl, D4, by omega, .inl (.inl W4.ht), ?_, ?_, W4.t0.1, W4.t0.2, fun H5 vt k5 D5 hvt => ?_⟩⟩
    · rw [← wD_t tl cl nl kl]
      exact DGet.k (k := .inr "tables") W4.dct
    · intro e
      have := congrArg List.length e
      rw [List.length_map, W4.lt] at this
      cases this
    · rw [List.length_map, W4.lt]
      decide
    obtain ⟨t, ht, rfl⟩ := List.mem_map.mp hvt
    have ft := Fine.str (W4.at' t ht)
    have W5 := W4.keep k5
    have nt := W4.at' t ht
    refine ⟨vn, rfl, .ref d, rfl, .ref u, rfl, u, .ref cl, rfl, ?_, .inl ⟨d, c, cl, _, _, rfl, D5, by omega, .inl (.inl W5.hc), ?_, ?_, W5.c0.1, W5.c0.2, fun H6 vc k6 D6 hvc => ?_⟩⟩
    · rw [← wD_c tl cl nl kl]
      exact DGet.k (k := .inr "columns") W5.dct
    · intro e
      have := congrArg List.length e
      rw [List.length_map, W5.lc] at this
      cases this
    · rw [List.length_map, W5.lc]
      decide
    obtain ⟨z, hz, rfl⟩ := List.mem_map.mp hvc
    have fz := Fine.str (W5.ac z hz)
    refine ⟨_, _, _, rfl, fun p np => ?_⟩
    have s6 := same_upd (o := .tup [.str "cell", .str t, vn, .str z]) np
    have pn5 := dp_keep ((k5.t D4).trans (k6.t D5)) _ _ fn.flat pn4
    have F := (Fines.cons (Fine.word (w := "cell") (by decide)).k0 (.cons ft.k0 (.cons fn (.cons fz.k0 .nil)))).tup
    exact q _ _ _ (((k04.trans k5).trans k6).trans (Keep.of s6)) ((D6.same s6).mono (by omega)) (F.mono (by omega) (by omega)) (.cell _ _ _ _ _ ⟨List.mem_cons_of_mem _ (List.mem_append_left _ ht), nm_hash nt⟩ ⟨List.mem_cons_of_mem _ (List.mem_append_right _ (List.mem_append_left _ hz)), nm_hash (W5.ac z hz)⟩ cn) (new_tup (.cons (.str _) (.cons (.str _) (.cons pn5 (.cons (.str _) .nil)))) (by simp only [flatDs, flatD, fn.flat, Bool.and_self]) np)
  -- an aggregate
  refine ⟨fun σ' H' => σ' = [some (.ref d), some (.ref u), some (.int deep), some (.ref sc), some (.int loose), some (.int way), some v1, some vn, none] ∧ H' = H4, ?_, ?_⟩
  · refine ⟨.int way, rfl, rfl, _, rfl, ite2 (fun e5 => ⟨.int loose, rfl, _, _, rfl, rfl, _, rfl, ite2 (fun e6 => ?_) (fun e6 => ⟨rfl, rfl⟩)⟩) (fun e5 => ⟨rfl, rfl⟩)⟩
    have hl : loose < 2 := of_decide_eq_true e6
    refine ⟨.ref d, rfl, .ref u, rfl, .int deep, rfl, .ref sc, rfl, m, rfl, d, c, u, sc, _, deep, ts, cs, ns, scope, rfl, D4, by omega, W4, S4, by omega, fun H5 v x k5 D5 f5 c5 p5 => ?_⟩
    refine q _ _ _ (k04.trans k5) (D5.mono (by omega)) f5 ?_ p5
    rw [← nmx_one (l := loose) (by omega) hl2]
    rcases Bool.eq_false_or_eq_true (decide (0 < loose)) with e | e
    · rw [e]; exact c5.free
    · rw [e]; exact c5
  rintro σ' _ ⟨rfl, rfl⟩
  -- the other
  refine ⟨.ref d, rfl, .ref u, rfl, .int deep, rfl, deep, 1, rfl, rfl, .ref sc, rfl, .int loose, rfl, m, rfl, d, c, u, sc, _, deep - 1, loose, ts, cs, ns, scope, rfl, D4, by omega, W4, S4, by omega, hl0, hl2, fun H5 v2 x2 k5 D5 f2 c2 p2 => ?_⟩
  have k05 := k04.trans k5
  have p15 := dp_keep (k5.t D4) _ _ f1.flat p14
  have pn5 := dp_keep (k5.t D4) _ _ fn.flat pn4
  refine ⟨.int way, rfl, _, _, rfl, rfl, _, rfl, ite2 (fun e5 => ?_) (fun e5 => ?_)⟩
  · refine ⟨.ref d, rfl, h1000 (show 6 ≤ 1000 by decide), fun l nl => ?_⟩
    have sl := same_upd (o := .lst [.str "+", .str "-", .str "*", .str "<", .str "=", .str "+"]) nl
    have hln := D5.new nl
    refine .inl ⟨d, c, l, _, [.str "+", .str "-", .str "*", .str "<", .str "=", .str "+"], rfl, D5.same sl, by omega, .inl (.inl upd_same), List.cons_ne_nil _ _, (show 6 ≤ 1000 by decide), hln.1, hln.2, fun H6 vo k6 D6 hvo => ?_⟩
    obtain ⟨o, ho, ho5, rfl⟩ : ∃ o : Str, o ∈ (["int", "key", "var", "cell", "if", "+", "-", "*", "<", "=", "at", "count", "sum", "most", "first", "in", "let", "need", "tell", "put", "each"] : List Str) ∧ o ∈ ops5 ∧ vo = .str o := by
      simp only [List.mem_cons, List.not_mem_nil, or_false] at hvo
      rcases hvo with rfl | rfl | rfl | rfl | rfl | rfl
      · exact ⟨_, by decide, by decide, rfl⟩
      · exact ⟨_, by decide, by decide, rfl⟩
      · exact ⟨_, by decide, by decide, rfl⟩
      · exact ⟨_, by decide, by decide, rfl⟩
      · exact ⟨_, by decide, by decide, rfl⟩
      · exact ⟨_, by decide, by decide, rfl⟩
    have kt6 := (KeepT.of sl).trans (k6.t (D5.same sl))
    refine ⟨v1, rfl, v2, rfl, h1000 (show 3 ≤ 1000 by decide), fun p np => ?_⟩
    have s7 := same_upd (o := .tup [.str o, v1, v2]) np
    have F := (Fines.cons (Fine.word ho).k0 (.cons f1 (.cons f2 .nil))).tup
    exact q _ _ _ ((k05.trans (Keep.of sl)).trans (k6.trans (Keep.of s7))) ((D6.same s7).mono (by omega)) (F.mono (by omega) (by omega)) (.op _ _ _ _ _ ho5 c1 c2) (new_tup (.cons (.str _) (.cons (dp_keep kt6 _ _ f1.flat p15) (.cons (dp_keep kt6 _ _ f2.flat p2) .nil))) (by simp only [flatDs, flatD, f1.flat, f2.flat, Bool.and_self]) np)
  have W5 := W.keep k05
  have S5 := S.keep k05
  refine ⟨.int way, rfl, rfl, _, rfl, ite2 (fun e6 => ?_) (fun e6 => ?_)⟩
  · refine ⟨vn, rfl, .ref d, rfl, .ref u, rfl, .int deep, rfl, deep, 1, rfl, rfl, .ref sc, rfl, .int loose, rfl, _, _, rfl, m, rfl, d, c, u, sc, _, deep - 1, _, ts, cs, ns, scope, rfl, D5, by omega, W5, S5, by omega, ?_, ?_, fun H6 v3 x3 k6 D6 f3 c3 p3 => ⟨h1000 (show 3 ≤ 1000 by decide), fun p np => ?_⟩⟩
    · split <;> omega
    · split <;> omega
    have c3t : Cx (nmx loose ts cs) scope true (m + 2) x3 := by
      have := c3.free
      rw [nmx_max hl0 hl2] at this
      exact this
    have s7 := same_upd (o := .tup [.str "at", vn, v3]) np
    have F := (Fines.cons (Fine.word (w := "at") (by decide)).k0 (.cons fn (.cons f3 .nil))).tup
    exact q _ _ _ ((k05.trans k6).trans (Keep.of s7)) ((D6.same s7).mono (by omega)) (F.mono (by omega) (by omega)) (.at_ _ _ _ _ cn c3t) (new_tup (.cons (.str _) (.cons (dp_keep (k6.t D5) _ _ fn.flat pn5) (.cons p3 .nil))) (by simp only [flatDs, flatD, fn.flat, f3.flat, Bool.and_self]) np)
  · refine ⟨v1, rfl, v2, rfl, .ref d, rfl, .ref u, rfl, .int deep, rfl, deep, 1, rfl, rfl, .ref sc, rfl, .int loose, rfl, m, rfl, d, c, u, sc, _, deep - 1, loose, ts, cs, ns, scope, rfl, D5, by omega, W5, S5, by omega, hl0, hl2, fun H7 v4 x4 k7 D7 f4 c4 p4 => ⟨h1000 (show 4 ≤ 1000 by decide), fun p np => ?_⟩⟩
    have s8 := same_upd (o := .tup [.str "if", v1, v2, v4]) np
    have F := (Fines.cons (Fine.word (w := "if") (by decide)).k0 (.cons f1 (.cons f2 (.cons f4 .nil)))).tup
    exact q _ _ _ ((k05.trans k7).trans (Keep.of s8)) ((D7.same s8).mono (by omega)) (F.mono (by omega) (by omega)) (.iff _ _ _ _ _ c1 c2 c4) (new_tup (.cons (.str _) (.cons (dp_keep (k7.t D5) _ _ f1.flat p15) (.cons (dp_keep (k7.t D5) _ _ f2.flat p2) (.cons p4 .nil)))) (by simp only [flatDs, flatD, f1.flat, f2.flat, f4.flat, Bool.and_self]) np)
end
end L41

namespace L41
open PySem PySem.Spec PyProof.Rows L2 GR
section
variable {P : Program} {w : World} {K : PySem.W.Frag} {mg : Str → Option Value} {base : Heap}
theorem ok_none {k : Nat} {f : Addr} {fd : FuncData} {ps : List Str} {sp : Sp} (h : ∀ vs H Q E, ¬ sp vs H Q E) : FnOk P w K mg base CX0 k f fd ps sp :=
  ⟨fun vs H Q E q => absurd q (h vs H Q E), fun A outer s H args us vs Q E hr he hb hv hs => absurd hs (h vs H Q E)⟩
theorem ok_exprs {f f_law_draw f_law_pick f_leaf f_cell f_agg : Addr} {fd fd_law_draw fd_law_pick d_leaf d_cell d_agg : FuncData} {k : Nat} (F : Fun K "_law_expression" "_law_expression" s_law_expression f fd) (FA : Fun K "_law_aggregate" "_law_aggregate" s_law_aggregate f_agg d_agg) (G_law_draw : FnOk P w K mg base CX0 k f_law_draw fd_law_draw ["_law_deck_here", "_law_most"] sp_draw)
    (g_law_draw : mg "_law_draw" = some (.ref f_law_draw)) (K_law_draw : PySem.W.keepIn K (.ref f_law_draw) = true) (b_law_draw : Binds K fd_law_draw ["_law_deck_here", "_law_most"] [])
    (G_law_pick : FnOk P w K mg base CX0 k f_law_pick fd_law_pick ["_law_deck_here", "_law_some"] (sp_pick K))
    (g_law_pick : mg "_law_pick" = some (.ref f_law_pick)) (K_law_pick : PySem.W.keepIn K (.ref f_law_pick) = true) (b_law_pick : Binds K fd_law_pick ["_law_deck_here", "_law_some"] [])
    (G_leaf : FnOk P w K mg base CX0 k f_leaf d_leaf ps_lf (sp_leaf K)) (g_leaf : mg "_law_leaf" = some (.ref f_leaf)) (K_leaf : PySem.W.keepIn K (.ref f_leaf) = true) (b_leaf : Binds K d_leaf ps_lf [])
    (G_cell : FnOk P w K mg base CX0 k f_cell d_cell ps_ce sp_cell) (g_cell : mg "_law_cell" = some (.ref f_cell)) (K_cell : PySem.W.keepIn K (.ref f_cell) = true) (b_cell : Binds K d_cell ps_ce [])
    (g_agg : mg "_law_aggregate" = some (.ref f_agg)) (K_agg : PySem.W.keepIn K (.ref f_agg) = true) (b_agg : Binds K d_agg ps_ag [])
    (g : mg "_law_expression" = some (.ref f)) (Kf : PySem.W.keepIn K (.ref f) = true) (b : Binds K fd ps_ex [])
    (mmax : mg "max" = none) : ∀ n : Nat, FnOk P w K mg base CX0 (k + 2 * n + 1) f fd ps_ex (sp_expr K n)
  | 0 => ok_expr_step (k := k) F G_law_draw g_law_draw K_law_draw b_law_draw G_law_pick g_law_pick K_law_pick b_law_pick G_leaf g_leaf K_leaf b_leaf G_cell g_cell K_cell b_cell (ok_none fun vs H Q E ⟨m, h, _⟩ => by omega) g_agg K_agg b_agg (ok_none fun vs H Q E ⟨m, h, _⟩ => by omega) g Kf b mmax
  | n + 1 => by
    have ih := ok_exprs F FA G_law_draw g_law_draw K_law_draw b_law_draw G_law_pick g_law_pick K_law_pick b_law_pick G_leaf g_leaf K_leaf b_leaf G_cell g_cell K_cell b_cell g_agg K_agg b_agg g Kf b mmax n
    have ia := ok_agg (k := k + 2 * n + 1) FA (G_law_pick.mono (by omega)) g_law_pick K_law_pick b_law_pick (G_cell.mono (by omega)) g_cell K_cell b_cell ih g Kf b
    refine ok_expr_step (k := k + 2 * n + 2) F (G_law_draw.mono (by omega)) g_law_draw K_law_draw b_law_draw (G_law_pick.mono (by omega)) g_law_pick K_law_pick b_law_pick (G_leaf.mono (by omega)) g_leaf K_leaf b_leaf (G_cell.mono (by omega)) g_cell K_cell b_cell (ia.imp ?_) g_agg K_agg b_agg ((ih.mono (by omega)).imp ?_) g Kf b mmax
    · rintro vs H Q E ⟨m, hm, h⟩
      obtain rfl : n = m := by omega
      exact h
    · rintro vs H Q E ⟨m, hm, h⟩
      obtain rfl : n = m := by omega
      exact h
/-! ### statements -/
/-- the table and column that a statement writes to; whether it is a let -/
def colD : PyData → Option (Str × Str)
  | .tuple [.str w, .str t, _, .str z, _] => if w = "put" ∨ w = "each" then some (t, z) else none
  | _ => none
def isLet : PyData → Bool
  | .tuple (.str w :: _) => decide (w = "let")
  | _ => false
/-- the form of a statement: its word, the next thing, the others -/
def SF (w : Str) (v1 : V) (vs : List V) (x : PyData) : Prop := (w = "let" ∧ isLet x = true ∧ colD x = none ∧ ∃ z e, v1 = .str z ∧ Nm z ∧ vs = [e]) ∨ ((w = "need" ∨ w = "tell") ∧ isLet x = false ∧ colD x = none ∧ vs = []) ∨
  ((w = "put" ∨ w = "each") ∧ isLet x = false ∧ ∃ t e z f, v1 = .str t ∧ vs = [e, .str z, f] ∧ colD x = some (t, z) ∧ Nm t ∧ Nm z)
theorem isLet_t {w : Str} {ds : List PyData} (h : w = "let") : isLet (.tuple (.str w :: ds)) = true := decide_eq_true h
theorem isLet_f {w : Str} {ds : List PyData} (h : w ≠ "let") : isLet (.tuple (.str w :: ds)) = false := decide_eq_false h
theorem colD_p {w t z : Str} {x y : PyData} (h : w = "put" ∨ w = "each") : colD (.tuple [.str w, .str t, x, .str z, y]) = some (t, z) := if_pos h
theorem colD_2 {w : Str} : ∀ x : PyData, colD (.tuple [.str w, x]) = none := fun x => by cases x <;> rfl
theorem SF.let' {w : Str} {v1 : V} {vs : List V} {x : PyData} (h : SF w v1 vs x) (e : w = "let") : ∃ z, v1 = .str z ∧ Nm z := by
  subst e
  rcases h with ⟨_, _, _, z, _, h1, h2, _⟩ | ⟨h, _⟩ | ⟨h, _⟩
  · exact ⟨z, h1, h2⟩
  · rcases h with h | h <;> exact absurd h (by decide)
  · rcases h with h | h <;> exact absurd h (by decide)
/-- a statement by its expressions; sc: the variables that are let ahead of it -/
inductive StX (ts cs sc : List Str) : PyData → Prop
  | let_ (z : Str) (x : PyData) : Nm z → z ∉ sc → Cx (nmx 0 ts cs) sc false 5 x → StX ts cs sc (.tuple [.str "let", .str z, x])
  | need (x : PyData) : Cx (nmx 0 ts cs) sc false 5 x → StX ts cs sc (.tuple [.str "need", .tuple [.str "<", .tuple [.str "int", .int (0 - 3)], x]])
  | tell (x : PyData) : Cx (nmx 0 ts cs) sc false 5 x → StX ts cs sc (.tuple [.str "tell", x])
  | each (t z : Str) (x y : PyData) : t ∈ ts → z ∈ cs → Cx (nmx 2 ts cs) sc true 5 x → Cx (nmx 2 ts cs) sc true 5 y → StX ts cs sc (.tuple [.str "each", .str t, x, .str z, y])
  | put (t z : Str) (x y : PyData) : t ∈ ts → (z ∈ cs ∨ z = "in") → Cx (nmx 0 ts cs) sc false 5 x → Cx (nmx 0 ts cs) sc false 5 y → StX ts cs sc (.tuple [.str "put", .str t, x, .str z, y])
/-- the variable that a statement lets -/
def letNm : PyData → Option Str
  | .tuple (.str w :: .str z :: _) => if w = "let" then some z else none
  | _ => none
theorem letNm_no {w : Str} {r : List PyData} (h : w ≠ "let") : letNm (.tuple (.str w :: r)) = none := by
  cases r with
  | nil => rfl
  | cons a r => cases a <;> first | rfl | exact if_neg h
/-- the object of a let -/
def LetH (H : Hp) (v : V) (x : PyData) : Prop := ∀ z, letNm x = some z → ∃ (p : Addr) (e : V), v = .ref p ∧ H p = some (.tup [.str "let", .str z, e])
theorem LetH.no {H : Hp} {v : V} {x : PyData} (h : letNm x = none) : LetH H v x := fun z e => by rw [h] at e; cases e
theorem LetH.keep {H H' : Hp} {v : V} {x : PyData} (h : LetH H v x) (k : KeepT H H') : LetH H' v x := fun z e => by
  obtain ⟨p, u, h1, h2⟩ := h z e
  exact ⟨p, u, h1, k.1 _ _ h2⟩
theorem in_strs (z : Str) (W : List Str) : inV (.str z) (W.map V.str) = decide (z ∈ W) := by
  unfold inV
  rw [List.any_map, Bool.eq_iff_iff, List.any_eq_true, decide_eq_true_eq]
  constructor
  · rintro ⟨f, hf, e⟩
    have : z = f := by
      have e' : eqV (.str f) (.str z) = true := e
      simp [eqV] at e'
      exact e'.symm
    rw [this]
    exact hf
  · intro h
    exact ⟨z, h, by show eqV (.str z) (.str z) = true; simp [eqV]⟩
/-- a statement: a tuple of one of these forms -/
def SV (K : PySem.W.Frag) (H : Hp) (v : V) (x : PyData) : Prop := ∃ (p : Addr) (w : Str) (v1 : V) (vs : List V), v = .ref p ∧ H p = some (.tup (.str w :: v1 :: vs)) ∧ SF w v1 vs x ∧ Dp K H v x ∧ Fine 8 12000 x
theorem SV.keep {K : PySem.W.Frag} {H H' : Hp} {v : V} {x : PyData} (h : SV K H v x) (k : KeepT H H') : SV K H' v x := by
  obtain ⟨p, w, v1, vs, rfl, h1, h2, h3, h4⟩ := h
  exact ⟨p, w, v1, vs, rfl, k.1 _ _ h1, h2, dp_keep k _ _ h4.flat h3, h4⟩
abbrev s_law_statement : Stmt := topS 50
abbrev N_st : List Str := ["_law_deck_here", "_law_world_here", "_law_scope", "_law_deep", "_law_way", "_law_table", "_law_column", "_law_left", "_law_guard", "_law_key", "_law_name"]
abbrev ps_st : List Str := ["_law_deck_here", "_law_world_here", "_law_scope", "_law_deep"]
theorem sc_law_statement : FnScope N_st ps_st (defScope s_law_statement) := ⟨rfl, rfl, rfl, by decide +kernel, rfl, by decide +kernel, by decide +kernel⟩
def sp_stmt (K : PySem.W.Frag) : Sp := fun vs H Q _ => ∃ (d c u sc : Addr) (N deep : Int) (ts cs ns scope : List Str), vs = [.ref d, .ref u, .ref sc, .int deep] ∧ deep ≤ 3 ∧ Deck H d c N ∧ N < 2 ^ 53 ∧ AtW H d c u ts cs ns ∧ Scp H d c sc scope ∧
  ∀ H' v x, Keep d c H H' → Deck H' d c (N + 20000) → SV K H' v x → StX ts cs scope x → LetH H' v x → Q v H'
theorem flat_map_str (zs : List Str) : (zs.map V.str).all flatV = true := by
  rw [List.all_eq_true]
  intro v hv
  obtain ⟨z, _, rfl⟩ := List.mem_map.mp hv
  rfl
theorem ok_stmt {f f_law_draw f_law_pick f_ex f_leaf : Addr} {fd fd_law_draw fd_law_pick d_ex d_leaf : FuncData} {k : Nat} (F : Fun K "_law_statement" "_law_statement" s_law_statement f fd) (G_law_draw : FnOk P w K mg base CX0 k f_law_draw fd_law_draw ["_law_deck_here", "_law_most"] sp_draw)
    (g_law_draw : mg "_law_draw" = some (.ref f_law_draw)) (K_law_draw : PySem.W.keepIn K (.ref f_law_draw) = true) (b_law_draw : Binds K fd_law_draw ["_law_deck_here", "_law_most"] [])
    (G_law_pick : FnOk P w K mg base CX0 k f_law_pick fd_law_pick ["_law_deck_here", "_law_some"] (sp_pick K))
    (g_law_pick : mg "_law_pick" = some (.ref f_law_pick)) (K_law_pick : PySem.W.keepIn K (.ref f_law_pick) = true) (b_law_pick : Binds K fd_law_pick ["_law_deck_here", "_law_some"] [])
    (G_leaf : FnOk P w K mg base CX0 k f_leaf d_leaf ps_lf (sp_leaf K)) (g_leaf : mg "_law_leaf" = some (.ref f_leaf)) (K_leaf : PySem.W.keepIn K (.ref f_leaf) = true) (b_leaf : Binds K d_leaf ps_lf [])
    (G : FnOk P w K mg base CX0 k f_ex d_ex ps_ex (sp_expr K 3)) (g : mg "_law_expression" = some (.ref f_ex)) (Kf : PySem.W.keepIn K (.ref f_ex) = true) (b : Binds K d_ex ps_ex []) : FnOk P w K mg base CX0 (k + 1) f fd ps_st (sp_stmt K) := by
  have nd := sc_law_statement.nd
  refine F.ok sc_law_statement (fun vs H Q E h => ?_) (fun cdv A outer s H vs Q E hr h => ?_)
  · obtain ⟨d, c, u, sc, N, deep, ts, cs, ns, scope, rfl, _⟩ := h
    rfl
  obtain ⟨d, c, u, sc, N, deep, ts, cs, ns, scope, rfl, hdeep, D, hN, W, S, q⟩ := h
  have hu1 : (A.deeper (envOfC "_law_statement" (defScope s_law_statement) s.heap.objs.size f cdv)).units + 1 < cLine := by
    have := hr.units
    omega
  have hu : (A.deeper (envOfC "_law_statement" (defScope s_law_statement) s.heap.objs.size f cdv)).units < cLine := by omega
  refine ⟨_, (pss_cons (ps_set (i := 4) nd rfl (.inl rfl) (pe_call G_law_draw hr (by rfl) g_law_draw K_law_draw b_law_draw .nil pass0 (pa_cons (pv 0) (pa_cons pe_int pa_nil))))
      (pss_cons (ps_set (i := 5) nd rfl (.inl rfl) (pe_call G_law_pick hr (by rfl) g_law_pick K_law_pick b_law_pick .nil pass0 (pa_cons (pv 0) (pa_cons (pe_dget hu1 (pv 1) pe_str noSl_str) pa_nil))))
      (pss_cons (ps_set (i := 6) nd rfl (.inl rfl) (pe_call G_law_pick hr (by rfl) g_law_pick K_law_pick b_law_pick .nil pass0 (pa_cons (pv 0) (pa_cons (pe_dget hu1 (pv 1) pe_str noSl_str) pa_nil))))
      (Evl.pss_cut (ps_setLc (i := 7) (own := [("_law_name", 10)]) (tt := tTest (tOp (rIn K true) (tVar 10) (tVar 2))) (te := tVar 10) rfl nd rfl rfl (sw_true rfl rfl rfl (by decide +kernel)) (pi_list (pe_dget hu1 (pv 1) pe_str noSl_str)) (blkOk_by (N := N_st) (sc := defScope s_law_statement) (by decide +kernel)) (fun _ _ _ _ _ => (pg_name (i := 10) nd rfl (Or.inl rfl))) (fun _ _ _ _ _ => (pts_one (pt_cmpR op_notIn_seq (pv 10) (pv 2) (by rfl)))) (fun _ _ _ _ _ => (pv 10)))
      (Evl.pss_cut (ps_if (PW.pt (pw_and (pt_cmpR op_lt (pv 4) pe_int (nomark _)) (pw_and1 (pt_cmpR (ZE.op_neL0 hu) (pv 7) (pe_lst pa_nil) (nomark _)))))
      (pss_one (ps_ret (pe_tup (pa_cons pe_str (pa_cons (pe_ix ix_list (pv 7) pe_int (fun _ _ => rfl)) (pa_cons (pe_call G hr (by rfl) g Kf b .nil pass0 (pa_cons (pv 0) (pa_cons (pv 1) (pa_cons (pv 3) (pa_cons (pv 2) (pa_cons pe_int pa_nil)))))) pa_nil))))))
      pss_nil)
      (pss_cons (ps_if (pt_cmpR op_eq (pv 4) pe_int (nomark _))
      (pss_one (ps_ret (pe_tup (pa_cons pe_str (pa_cons (pe_tup (pa_cons pe_str (pa_cons (pe_tup (pa_cons pe_str (pa_cons (pe_op op_sub pe_int pe_int) pa_nil))) (pa_cons (pe_call G hr (by rfl) g Kf b .nil pass0 (pa_cons (pv 0) (pa_cons (pv 1) (pa_cons (pv 3) (pa_cons (pv 2) (pa_cons pe_int pa_nil)))))) pa_nil)))) pa_nil)))))
      pss_nil)
      (pss_cons (ps_if (pt_cmpR op_eq (pv 4) pe_int (nomark _))
      (pss_one (ps_ret (pe_tup (pa_cons pe_str (pa_cons (pe_call G hr (by rfl) g Kf b .nil pass0 (pa_cons (pv 0) (pa_cons (pv 1) (pa_cons (pv 3) (pa_cons (pv 2) (pa_cons pe_int pa_nil)))))) pa_nil)))))
      pss_nil)
      (pss_cons (ps_if (pt_cmpR op_lt (pv 4) pe_int (nomark _))
      (pss_cons (ps_set (i := 8) nd rfl (.inl rfl) (pe_call G hr (by rfl) g Kf b .nil pass0 (pa_cons (pv 0) (pa_cons (pv 1) (pa_cons (pv 3) (pa_cons (pv 2) (pa_cons pe_int pa_nil)))))))
        (pss_one (ps_ret (pe_tup (pa_cons pe_str (pa_cons (pv 5) (pa_cons (pv 8) (pa_cons (pv 6) (pa_cons (pe_call G hr (by rfl) g Kf b .nil pass0 (pa_cons (pv 0) (pa_cons (pv 1) (pa_cons (pv 3) (pa_cons (pv 2) (pa_cons pe_int pa_nil)))))) pa_nil)))))))))
      pss_nil)
      (pss_cons (ps_if (pt_cmpR op_lt (pv 4) pe_int (nomark _))
      (pss_one (ps_ret (pe_tup (pa_cons pe_str (pa_cons (pv 5) (pa_cons (pe_call G_leaf hr (by rfl) g_leaf K_leaf b_leaf .nil pass0 (pa_cons (pv 0) (pa_cons (pv 1) (pa_cons (pv 2) (pa_cons pe_bl pa_nil))))) (pa_cons pe_str (pa_cons (pe_tup (pa_cons pe_str (pa_cons (pe_call G_law_draw hr (by rfl) g_law_draw K_law_draw b_law_draw .nil pass0 (pa_cons (pv 0) (pa_cons pe_int pa_nil))) pa_nil))) pa_nil))))))))
      pss_nil)
      (pss_cons (ps_set (i := 9) nd rfl (.inl rfl) (pe_call G hr (by rfl) g Kf b .nil pass0 (pa_cons (pv 0) (pa_cons (pv 1) (pa_cons (pe_op op_sub (pv 3) pe_int) (pa_cons (pv 2) (pa_cons pe_int pa_nil)))))))
      (pss_one (ps_ret (pe_tup (pa_cons pe_str (pa_cons (pv 5) (pa_cons (pv 9) (pa_cons (pv 6) (pa_cons (pe_call G hr (by rfl) g Kf b .nil pass0 (pa_cons (pv 0) (pa_cons (pv 1) (pa_cons (pv 3) (pa_cons (pv 2) (pa_cons pe_int pa_nil)))))) pa_nil)))))))))))))))))), ?_⟩
  have hdx : dx 3 = 3450 + 0 := by decide
  have hem : em 3 = 5820 := by decide
  refine ⟨.ref d, rfl, d, c, N, 12, rfl, D, by omega, by decide, by decide, fun H1 way k1 D1 w0 w1 => ?_⟩
  obtain ⟨tl, cl, nl, kl, ks, W0⟩ := W
  have W1 := W0.keep k1
  refine ⟨.ref d, rfl, .ref u, rfl, u, .ref tl, rfl, ?_, .inl ⟨d, c, tl, _, _, rfl, D1, by omega, .inl (.inl W1.ht), ?_, ?_, W1.t0.1, W1.t0.2, fun H2 vt k2 D2 hvt => ?_⟩⟩
  · rw [← wD_t tl cl nl kl]
    exact DGet.k (k := .inr "tables") W1.dct
  · intro e
    have := congrArg List.length e
    rw [List.length_map, W0.lt] at this
    cases this
  · rw [List.length_map, W0.lt]
    decide
  obtain ⟨t, ht, rfl⟩ := List.mem_map.mp hvt
  have ft := Fine.str (W0.at' t ht)
  have nt := W0.at' t ht
  have k02 := k1.trans k2
  have W2 := W0.keep k02
  refine ⟨.ref d, rfl, .ref u, rfl, u, .ref cl, rfl, ?_, .inl ⟨d, c, cl, _, _, rfl, D2, by omega, .inl (.inl W2.hc), ?_, ?_, W2.c0.1, W2.c0.2, fun H3 vc k3 D3 hvc => ?_⟩⟩
  · rw [← wD_c tl cl nl kl]
    exact DGet.k (k := .inr "columns") W2.dct
  · intro e
    have := congrArg List.length e
    rw [List.length_map, W0.lc] at this
    cases this
  · rw [List.length_map, W0.lc]
    decide
  obtain ⟨z, hz, rfl⟩ := List.mem_map.mp hvc
  have fz := Fine.str (W0.ac z hz)
  have nz := W0.ac z hz
  have k03 := k02.trans k3
  have W3 := W0.keep k03
  have S3 := S.keep k03
  -- what is left
  refine ⟨fun σ' H' => ∃ (B : Addr) (y : Option V) (zs : List Str), σ' = [some (.ref d), some (.ref u), some (.ref sc), some (.int deep), some (.int way), some (.str t), some (.str z), some (.ref B), none, none, y] ∧ Same H3 H' ∧ H' B = some (.lst (zs.map V.str)) ∧ (B ≠ d ∧ B ≠ c) ∧ ∀ y, y ∈ zs → Nm y ∧ y ∉ scope, ?_, ?_⟩
  · refine ⟨.ref u, rfl, u, .ref nl, rfl, ?_, nl, rfl, ⟨_, .inl (.inl W3.hn)⟩, fun B nB => ?_⟩
    · rw [← wD_n tl cl nl kl]
      exact DGet.k (k := .inr "names") W3.dct
    have hBd := D3.new nB
    have hBn : nl ≠ B := ne_of_none W3.hn nB
    have hBs : sc ≠ B := ne_of_none S3.at' nB
    refine lc_list (xs := ns.map V.str) (fun i H' => ∃ zs : List Str, H' B = some (.lst (zs.map V.str)) ∧ zs.length ≤ i ∧ (∀ y, y ∈ zs → Nm y ∧ y ∉ scope) ∧ ∀ b ob, b ≠ B → H3 b = some ob → H' b = some ob) ?_ ?_ ?_ ?_
    · exact ⟨[], upd_same, Nat.le_refl _, fun v hv => (nomatch hv), fun b ob nb e => by rw [upd_ne nb]; exact e⟩
    · rintro i H' _ ⟨_, _, _, _, kk⟩
      exact .inl (.inl (kk _ _ hBn W3.hn))
    · rintro i x H4 hx ⟨zs, hB, hl4, hg, kk⟩
      rw [List.getElem?_map] at hx
      obtain ⟨y, hy, rfl⟩ := Option.map_eq_some_iff.mp hx
      have hi : i < ns.length := (List.getElem?_eq_some_iff.mp hy).1
      have hln := W0.ln
      refine ⟨rfl, .str y, rfl, .ref sc, rfl, sc, _, rfl, .inl (.inl (.inl (kk _ _ hBs S3.at'))), rfl, flat_map_str _, _, rfl, ?_⟩
      refine ite2 (fun e => ?_) (fun e => ?_)
      · refine ⟨.str y, rfl, _, hB, small1000 (by rw [List.length_map]; omega), zs ++ [y], by rw [List.map_append]; exact upd_same, by rw [List.length_append]; exact Nat.succ_le_succ hl4, fun v hv => ?_, fun b ob nb e => by rw [upd_ne nb]; exact kk b ob nb e⟩
        rcases List.mem_append.mp hv with h | h
        · exact hg v h
        · rw [List.mem_singleton.mp h]
          refine ⟨W0.an y (List.mem_of_getElem? hy), fun hm => ?_⟩
          have e2 : (!inV (.str y) (scope.map V.str)) = true := e
          rw [in_strs, decide_eq_true hm] at e2
          cases e2
      · exact ⟨zs, hB, by omega, hg, kk⟩
    · rintro H4 ⟨zs, hB, hl4, hg, kk⟩
      exact ⟨B, _, zs, rfl, fun b ob e => kk b ob (ne_of_none e nB) e, hB, hBd, hg⟩
  rintro σ' H4 ⟨B, yy, zs, rfl, s34, hB, hBd, hg⟩
  have k04 := k03.trans (Keep.of s34)
  have D4 := D3.same s34
  have W : AtW H d c u ts cs ns := ⟨tl, cl, nl, kl, ks, W0⟩
  clear W1 W2 W3 S3 D1 D2 D3 s34 k1 k2 k3 k02 k03
  have D5' := D4.mono (show N + 1 + 1 + 1 ≤ N + 3 by omega)
  clear D4
  -- a let
  refine ⟨fun σ' H' => σ' = [some (.ref d), some (.ref u), some (.ref sc), some (.int deep), some (.int way), some (.str t), some (.str z), some (.ref B), none, none, yy] ∧ Same H4 H', ?_, ?_⟩
  · refine ⟨.int way, rfl, _, _, rfl, rfl, _, rfl, ite2 (fun e1 => ⟨.ref B, rfl, Nat.zero_le _, fun l nl' => ⟨B, l, _, rfl, rfl, .inl (.inl (same_upd nl' _ _ hB)), .inl (.inl upd_same), _, rfl, ?_⟩⟩) (fun e1 => ⟨rfl, fun _ _ e => e⟩)⟩
    have sl := same_upd (o := .lst []) nl'
    refine ite2 (fun e2 => ?_) (fun e2 => ⟨rfl, sl⟩)
    obtain ⟨y, ys, rfl⟩ : ∃ y ys, zs = y :: ys := by
      cases zs with
      | nil => exact absurd e2 (by decide)
      | cons y ys => exact ⟨y, ys, rfl⟩
    have hgy := hg y List.mem_cons_self
    have fy := Fine.str hgy.1
    have k05 := k04.trans (Keep.of sl)
    refine ⟨.ref B, rfl, B, _, 0, .str y, rfl, rfl, .inl (.inl (sl _ _ hB)), at0, .ref d, rfl, .ref u, rfl, .int deep, rfl, .ref sc, rfl, d, c, u, sc, _, deep, 0, ts, cs, ns, scope, rfl, D5'.same sl, by omega, W.keep k05, S.keep k05, by omega, by decide, by decide, fun H5 v1 x1 k5 D5 f1 c1 p1 => ⟨h1000 (show 3 ≤ 1000 by decide), fun p np => ?_⟩⟩
    rw [hem] at f1
    have s6 := same_upd (o := .tup [.str "let", .str y, v1]) np
    have F := (Fines.cons (Fine.word (w := "let") (by decide)).k0 (.cons fy.k0 (.cons f1 .nil))).tup
    exact q _ _ _ ((k05.trans k5).trans (Keep.of s6)) ((D5.same s6).mono (by omega)) ⟨p, "let", .str y, [v1], rfl, upd_same, .inl ⟨rfl, isLet_t rfl, rfl, y, v1, rfl, hgy.1, rfl⟩, new_tup (.cons (.str _) (.cons (.str _) (.cons p1 .nil))) (by simp only [flatDs, flatD, f1.flat, Bool.and_self]) np, F.mono (by omega) (by omega)⟩ (.let_ y x1 hgy.1 hgy.2 c1) (fun z' e' => by
      have e'' : some y = some z' := e'
      cases e''
      exact ⟨p, v1, rfl, upd_same⟩)
  rintro σ' H6 ⟨rfl, s56⟩
  have k06 := k04.trans (Keep.of s56)
  have D6 := D5'.same s56
  have W6 := W.keep k06
  have S6 := S.keep k06
  clear hB D5' k04
  -- a need
  refine ⟨.int way, rfl, rfl, _, rfl, ite2 (fun e1 => ?_) (fun e1 => ?_)⟩
  · refine ⟨_, _, rfl, rfl, h1000 (show 2 ≤ 1000 by decide), fun a1 m1 => ?_⟩
    have t1 := same_upd (o := .tup [.str "int", .int (0 - 3)]) m1
    have b1 := new_tup (K := K) (.cons (.str "int") (.cons (.int (0 - 3)) .nil)) rfl m1
    have D7 := D6.same t1
    have k07 := k06.trans (Keep.of t1)
    refine ⟨.ref d, rfl, .ref u, rfl, .int deep, rfl, .ref sc, rfl, d, c, u, sc, _, deep, 0, ts, cs, ns, scope, rfl, D7, by omega, W.keep k07, S.keep k07, by omega, by decide, by decide, fun H5 v1 x1 k5 D5 f1 c1 p1 => ⟨h1000 (show 3 ≤ 1000 by decide), fun a2 m2 => ⟨h1000 (show 2 ≤ 1000 by decide), fun a3 m3 => ?_⟩⟩⟩
    rw [hem] at f1
    have t2 := same_upd (o := .tup [.str "<", .ref a1, v1]) m2
    have t3 := same_upd (o := .tup [.str "need", .ref a2]) m3
    have b2 := new_tup (K := K) (.cons (.str "<") (.cons (dp_keep (k5.t D7) _ _ rfl b1) (.cons p1 .nil))) (by simp only [flatDs, flatD, f1.flat, Bool.and_self]) m2
    have b3 := new_tup (K := K) (.cons (.str "need") (.cons b2 .nil)) (by simp only [flatDs, flatD, f1.flat, Bool.and_self]) m3
    have fi : Fine 1 36 (.tuple [.str "int", .int (0 - 3)]) := (tup2 (by decide) (Fine.int (by decide) (by decide)))
    have F3 := tup2 (w := "need") (by decide) (((Fines.cons (Fine.word (w := "<") (by decide)).k0 (.cons (fi.mono (show 1 ≤ 6 by decide) (Nat.le_refl _)) (.cons f1 .nil))).tup))
    exact q _ _ _ ((k07.trans k5).trans (Keep.of (t2.trans t3))) ((D5.same (t2.trans t3)).mono (by omega)) ⟨a3, "need", .ref a2, [], rfl, upd_same, .inr (.inl ⟨.inl rfl, isLet_f (by decide), colD_2 _, rfl⟩), b3, F3.mono (by decide) (by decide)⟩ (.need x1 c1) (.no (letNm_no (by decide)))
  -- a tell
  refine ⟨.int way, rfl, rfl, _, rfl, ite2 (fun e2 => ?_) (fun e2 => ?_)⟩
  · refine ⟨.ref d, rfl, .ref u, rfl, .int deep, rfl, .ref sc, rfl, d, c, u, sc, _, deep, 0, ts, cs, ns, scope, rfl, D6, by omega, W6, S6, by omega, by decide, by decide, fun H5 v1 x1 k5 D5 f1 c1 p1 => ⟨h1000 (show 2 ≤ 1000 by decide), fun a4 m4 => ?_⟩⟩
    rw [hem] at f1
    have t4 := same_upd (o := .tup [.str "tell", v1]) m4
    have b4 := new_tup (K := K) (.cons (.str "tell") (.cons p1 .nil)) (by simp only [flatDs, flatD, f1.flat, Bool.and_self]) m4
    exact q _ _ _ ((k06.trans k5).trans (Keep.of t4)) ((D5.same t4).mono (by omega)) ⟨a4, "tell", v1, [], rfl, upd_same, .inr (.inl ⟨.inr rfl, isLet_f (by decide), colD_2 _, rfl⟩), b4, (tup2 (w := "tell") (by decide) f1).mono (by decide) (by decide)⟩ (.tell x1 c1) (.no (letNm_no (by decide)))
  -- an each
  refine ⟨.int way, rfl, _, _, rfl, rfl, _, rfl, ite2 (fun e2 => ?_) (fun e2 => ?_)⟩
  · refine ⟨.ref d, rfl, .ref u, rfl, .int deep, rfl, .ref sc, rfl, d, c, u, sc, _, deep, 2, ts, cs, ns, scope, rfl, D6, by omega, W6, S6, by omega, by decide, by decide, fun H7 v2 x2 k7 D7 f2 c2 p2 => ?_⟩
    have k07 := k06.trans k7
    rw [hem] at f2
    refine ⟨.str t, rfl, v2, rfl, .str z, rfl, .ref d, rfl, .ref u, rfl, .int deep, rfl, .ref sc, rfl, d, c, u, sc, _, deep, 2, ts, cs, ns, scope, rfl, D7, by omega, W.keep k07, S.keep k07, by omega, by decide, by decide, fun H8 v3 x3 k8 D8 f3 c3 p3 => ⟨h1000 (show 5 ≤ 1000 by decide), fun p np => ?_⟩⟩
    rw [hem] at f3
    have s9 := same_upd (o := .tup [.str "each", .str t, v2, .str z, v3]) np
    have F := (Fines.cons (Fine.word (w := "each") (by decide)).k0 (.cons ft.k0 (.cons f2 (.cons fz.k0 (.cons f3 .nil))))).tup
    exact q _ _ _ ((k07.trans k8).trans (Keep.of s9)) ((D8.same s9).mono (by omega)) ⟨p, "each", .str t, [v2, .str z, v3], rfl, upd_same, .inr (.inr ⟨.inr rfl, isLet_f (by decide), t, v2, z, v3, rfl, rfl, colD_p (.inr rfl), nt, nz⟩), new_tup (.cons (.str _) (.cons (.str _) (.cons (dp_keep (k8.t D7) _ _ f2.flat p2) (.cons (.str _) (.cons p3 .nil))))) (by simp only [flatDs, flatD, f2.flat, f3.flat, Bool.and_self]) np, F.mono (by omega) (by omega)⟩ (.each t z x2 x3 ht hz c2 c3) (.no (letNm_no (by decide)))
  -- a put to in
  refine ⟨.int way, rfl, _, _, rfl, rfl, _, rfl, ite2 (fun e3 => ?_) (fun e3 => ?_)⟩
  · refine ⟨.str t, rfl, .ref d, rfl, .ref u, rfl, .ref sc, rfl, d, c, u, sc, _, false, ts, cs, ns, scope, rfl, D6, by omega, W6, S6, fun H7 v2 x2 k7 D7 f2 c2 p2 => ?_⟩
    have k07 := k06.trans k7
    refine ⟨.ref d, rfl, d, c, _, 4, rfl, D7, by omega, by decide, by decide, fun H8 r k8 D8 r0 r1 => ⟨h1000 (show 2 ≤ 1000 by decide), fun p1 np1 => ⟨h1000 (show 5 ≤ 1000 by decide), fun p np => ?_⟩⟩⟩
    have s9 := same_upd (o := .tup [.str "int", .int r]) np1
    have s10 := same_upd (o := .tup [.str "put", .str t, v2, .str "in", .ref p1]) np
    have bi := new_tup (K := K) (.cons (.str "int") (.cons (.int r) .nil)) rfl np1
    have fi : Fine 1 36 (.tuple [.str "int", .int r]) := tup2 (by decide) (Fine.int (by omega) (by omega))
    have F := (Fines.cons (Fine.word (w := "put") (by decide)).k0 (.cons ft.k0 (.cons f2 (.cons (Fine.word (w := "in") (by decide)).k0 (.cons (fi.mono (show 1 ≤ 3 by decide) (Nat.le_refl _)) .nil))))).tup
    exact q _ _ _ ((k07.trans k8).trans (Keep.of (s9.trans s10))) ((D8.same (s9.trans s10)).mono (by omega)) ⟨p, "put", .str t, [v2, .str "in", .ref p1], rfl, upd_same, .inr (.inr ⟨.inl rfl, isLet_f (by decide), t, v2, "in", .ref p1, rfl, rfl, colD_p (.inl rfl), nt, in_nm⟩), new_tup (.cons (.str _) (.cons (.str _) (.cons (dp_keep ((k8.t D7).trans (KeepT.of s9)) _ _ f2.flat p2) (.cons (.str _) (.cons bi .nil))))) (by simp only [flatDs, flatD, f2.flat, Bool.and_self]) np, F.mono (by omega) (by omega)⟩ (.put t "in" x2 _ ht (.inr rfl) ((c2 _).mono (by omega)) (.int _ _ _ (by omega) (by omega))) (.no (letNm_no (by decide)))
  -- a put
  refine ⟨.ref d, rfl, .ref u, rfl, .int deep, rfl, deep, 1, rfl, rfl, .ref sc, rfl, d, c, u, sc, _, _, 0, ts, cs, ns, scope, rfl, D6, by omega, W6, S6, by omega, by decide, by decide, fun H7 v2 x2 k7 D7 f2 c2 p2 => ?_⟩
  rw [hem] at f2
  have k07 := k06.trans k7
  refine ⟨.str t, rfl, v2, rfl, .str z, rfl, .ref d, rfl, .ref u, rfl, .int deep, rfl, .ref sc, rfl, d, c, u, sc, _, deep, 0, ts, cs, ns, scope, rfl, D7, by omega, W.keep k07, S.keep k07, by omega, by decide, by decide, fun H8 v3 x3 k8 D8 f3 c3 p3 => ⟨h1000 (show 5 ≤ 1000 by decide), fun p np => ?_⟩⟩
  rw [hem] at f3
  have s9 := same_upd (o := .tup [.str "put", .str t, v2, .str z, v3]) np
  have F := (Fines.cons (Fine.word (w := "put") (by decide)).k0 (.cons ft.k0 (.cons f2 (.cons fz.k0 (.cons f3 .nil))))).tup
  exact q _ _ _ ((k07.trans k8).trans (Keep.of s9)) ((D8.same s9).mono (by omega)) ⟨p, "put", .str t, [v2, .str z, v3], rfl, upd_same, .inr (.inr ⟨.inl rfl, isLet_f (by decide), t, v2, z, v3, rfl, rfl, colD_p (.inl rfl), nt, nz⟩), new_tup (.cons (.str _) (.cons (.str _) (.cons (dp_keep (k8.t D7) _ _ f2.flat p2) (.cons (.str _) (.cons p3 .nil))))) (by simp only [flatDs, flatD, f2.flat, f3.flat, Bool.and_self]) np, F.mono (by omega) (by omega)⟩ (.put t z x2 x3 ht (.inl hz) c2 c3) (.no (letNm_no (by decide)))
end
end L41

namespace L41
open PySem PySem.Spec PyProof.Rows L2 GR
abbrev SVs (K : PySem.W.Frag) (H : Hp) : List V → List PyData → Prop := Paired (SV K H)
theorem svs_keep {K : PySem.W.Frag} {H H' : Hp} (k : KeepT H H') : ∀ {vs : List V} {ds : List PyData}, SVs K H vs ds → SVs K H' vs ds
  | _, _, .nil => .nil
  | _, _, .cons h t => .cons (h.keep k) (svs_keep k t)
theorem svs_append {K : PySem.W.Frag} {H : Hp} : ∀ {vs us : List V} {ds es : List PyData}, SVs K H vs ds → SVs K H us es → SVs K H (vs ++ us) (ds ++ es)
  | _, _, _, _, .nil, h => h
  | _, _, _, _, .cons h t, g => .cons h (svs_append t g)
theorem svs_len {K : PySem.W.Frag} {H : Hp} {vs : List V} {ds : List PyData} (h : SVs K H vs ds) : vs.length = ds.length := Paired.length h
/-- the variables that these statements let -/
def letsD (ds : List PyData) : List Str := ds.filterMap letNm
theorem letsD_append (a b : List PyData) : letsD (a ++ b) = letsD a ++ letsD b := List.filterMap_append ..
/-- each statement sees the lets ahead of it -/
inductive Chain (ts cs : List Str) : List PyData → Prop
  | nil : Chain ts cs []
  | snoc (ds : List PyData) (x : PyData) : Chain ts cs ds → StX ts cs (letsD ds) x → Chain ts cs (ds ++ [x])
theorem StX.let' {ts cs sc : List Str} {x : PyData} (h : StX ts cs sc x) (e : isLet x = true) : ∃ z, letNm x = some z := by
  cases h with
  | let_ z x => exact ⟨z, rfl⟩
  | _ => exact absurd e (by simp only [isLet]; decide)
theorem isLet_no {x : PyData} (h : isLet x = false) : letNm x = none := by
  unfold isLet at h
  split at h
  · exact letNm_no (of_decide_eq_false h)
  · rename_i hx
    unfold letNm
    split
    · exact absurd rfl (hx _ _)
    · rfl
section
variable {P : Program} {w : World} {K : PySem.W.Frag} {mg : Str → Option Value} {base : Heap}
abbrev s_law_transaction : Stmt := topS 51
abbrev N_tr : List Str := ["_law_deck_here", "_law_world_here", "_law_most", "_law_deep", "_law_scope", "_law_found", "_law_k"]
abbrev ps_tr : List Str := ["_law_deck_here", "_law_world_here", "_law_most", "_law_deep"]
theorem sc_law_transaction : FnScope N_tr ps_tr (defScope s_law_transaction) := ⟨rfl, rfl, rfl, by decide +kernel, rfl, by decide +kernel, by decide +kernel⟩
def sp_tran (K : PySem.W.Frag) : Sp := fun vs H Q _ => ∃ (d c u : Addr) (N deep : Int) (many : Nat) (ts cs ns : List Str), vs = [.ref d, .ref u, .int (many : Int), .int deep] ∧ deep ≤ 3 ∧ many ≤ 7 ∧ Deck H d c N ∧ N < 2 ^ 52 ∧ AtW H d c u ts cs ns ∧
  ∀ H' p us ds, Keep d c H H' → Deck H' d c (N + 200000) → H' p = some (.tup us) → SVs K H' us ds → us.length ≤ 7 → Chain ts cs ds → Q (.ref p) H'
theorem ok_tran {f f_law_draw f_st : Addr} {fd fd_law_draw d_st : FuncData} {k : Nat} (F : Fun K "_law_transaction" "_law_transaction" s_law_transaction f fd) (G_law_draw : FnOk P w K mg base CX0 k f_law_draw fd_law_draw ["_law_deck_here", "_law_most"] sp_draw)
    (g_law_draw : mg "_law_draw" = some (.ref f_law_draw)) (K_law_draw : PySem.W.keepIn K (.ref f_law_draw) = true) (b_law_draw : Binds K fd_law_draw ["_law_deck_here", "_law_most"] [])
    (G : FnOk P w K mg base CX0 k f_st d_st ps_st (sp_stmt K)) (g : mg "_law_statement" = some (.ref f_st)) (Kf : PySem.W.keepIn K (.ref f_st) = true) (b : Binds K d_st ps_st []) (mrange : mg "range" = none) (mtuple : mg "tuple" = none) : FnOk P w K mg base CX0 (k + 1) f fd ps_tr (sp_tran K) := by
  have nd := sc_law_transaction.nd
  refine F.ok sc_law_transaction (fun vs H Q E h => ?_) (fun cdv A outer s H vs Q E hr h => ?_)
  · obtain ⟨d, c, u, N, deep, many, ts, cs, ns, rfl, _⟩ := h
    rfl
  obtain ⟨d, c, u, N, deep, many, ts, cs, ns, rfl, hdeep, hmany, D, hN, W, q⟩ := h
  refine ⟨_, (pss_cons (ps_set (i := 4) nd rfl (.inl rfl) (pe_lst pa_nil))
      (pss_cons (ps_set (i := 5) nd rfl (.inl rfl) (pe_lst pa_nil))
      (pss_cons (ps_for PassesOwn.never rfl (pi_range1 rfl mrange (pa_cons (pe_call G_law_draw hr (by rfl) g_law_draw K_law_draw b_law_draw .nil pass0 (pa_cons (pv 0) (pa_cons (pe_op op_add (pv 2) pe_int) pa_nil))) pa_nil)) (pg_name (i := 6) nd rfl (Or.inl rfl))
      (pss_cons (ps_expr (pe_bm PySem.F.plainAttrs_list PySem.F.slot_list_append PySem.F.type_list_append mt_append (pv 5) (pa_cons (pe_call G hr (by rfl) g Kf b .nil pass0 (pa_cons (pv 0) (pa_cons (pv 1) (pa_cons (pv 4) (pa_cons (pv 3) pa_nil))))) pa_nil)))
        (pss_one (ps_if (pt_cmpR op_eq (pe_ix ix_tup (pe_ix ix_list (pv 5) (pe_un un_neg pe_int) (fun _ _ => rfl)) pe_int (fun _ _ => rfl)) pe_str (nomark _))
        (pss_one (ps_expr (pe_bm PySem.F.plainAttrs_list PySem.F.slot_list_append PySem.F.type_list_append mt_append (pv 4) (pa_cons (pe_ix ix_tup (pe_ix ix_list (pv 5) (pe_un un_neg pe_int) (fun _ _ => rfl)) pe_int (fun _ _ => rfl)) pa_nil))))
        pss_nil))))
      (pss_one (ps_ret (pe_callTy call_tuple_of (by rfl) mtuple boot_tuple (pa_cons (pv 5) pa_nil))))))), ?_⟩
  refine ⟨Nat.zero_le _, fun sc nsc => ⟨Nat.zero_le _, fun fo nfo => ?_⟩⟩
  have s1 := same_upd (o := .lst []) nsc
  have s2 := same_upd (o := .lst []) nfo
  have hsc := D.new nsc
  have hfo := (D.same s1).new nfo
  have h1 := s2 _ _ (show upd H sc (.lst []) sc = _ from upd_same)
  have h2 : upd (upd H sc (.lst [])) fo (.lst []) fo = some (.lst []) := upd_same
  have nfoH : H fo = none := s1.free nfo
  have nscH := nsc
  have hsf : sc ≠ fo := ne_of_none (show upd H sc (.lst []) sc = some (.lst []) from upd_same) nfo
  have s12 := s1.trans s2
  revert h1 h2 s12
  clear s1 s2
  generalize upd (upd H sc (.lst [])) fo (.lst []) = H1
  intro h1 h2 s12
  have D1 := D.same s12
  refine ⟨.ref d, rfl, .int (many : Int), rfl, (many : Int), 1, rfl, rfl, d, c, N, (many : Int) + 1, rfl, D1, by omega, by omega, by omega, fun H2 r k2 D2 r0 r1 => ?_⟩
  obtain ⟨m, rfl⟩ := Int.eq_ofNat_of_zero_le r0
  refine ⟨(m : Int), rfl, by omega, by omega, ?_⟩
  rw [show ((m : Int)).toNat = m by omega]
  have nscH : H sc = none := nscH
  refine for_range (n := m) (fun i σ H' => ∃ (y6 : Option V) (us : List V) (ds : List PyData), σ = [some (.ref d), some (.ref u), some (.int (many : Int)), some (.int deep), some (.ref sc), some (.ref fo), y6] ∧ Keep d c H H' ∧ Deck H' d c (N + 1 + 20000 * (i : Int)) ∧ H' fo = some (.lst us) ∧ SVs K H' us ds ∧ us.length = i ∧ Scp H' d c sc (letsD ds) ∧ (letsD ds).length ≤ i ∧ Chain ts cs ds) ?_ ?_ ?_
  · exact ⟨none, [], [], rfl, (Keep.of s12).trans k2, D2.mono (by omega), k2 _ _ hfo.1 hfo.2 h2, .nil, rfl, ⟨k2 _ _ hsc.1 hsc.2 h1, hsc, fun z hz => (nomatch hz), Nat.zero_le _⟩, Nat.zero_le _, .nil⟩
  · rintro i σ H3 hi ⟨y6, us, ds, rfl, k3, D3, hf, hs, hl, S, hsl, hch⟩
    refine ⟨.ref fo, rfl, .inl ⟨rfl, us, .inl (.inl hf)⟩, .ref d, rfl, .ref u, rfl, .ref sc, rfl, .int deep, rfl, d, c, u, sc, _, deep, ts, cs, ns, letsD ds, rfl, hdeep, D3, by omega, W.keep k3, S, fun H4 v x k4 D4 sv sx lh => ?_⟩
    have hf4 := k4 _ _ hfo.1 hfo.2 hf
    have S4 := S.keep k4
    have hs4 := svs_keep (k4.t D3) hs
    refine ⟨fo, us, v, rfl, rfl, hf4, small1000 (by omega), ?_⟩
    have kf : KeepT H4 (upd H4 fo (.lst (us ++ [v]))) := KeepT.lst hf4
    have hf5 : upd H4 fo (.lst (us ++ [v])) fo = some (.lst (us ++ [v])) := upd_same
    have hs5 := svs_append (svs_keep kf hs4) (.cons (sv.keep kf) .nil)
    have sv5 := sv.keep kf
    have lh5 := lh.keep kf
    have D5 := D4.upd (o := .lst (us ++ [v])) hfo.1 hfo.2
    have k5 : Keep d c H (upd H4 fo (.lst (us ++ [v]))) := fun b o n1 n2 e => by
      rw [upd_ne (ne_of_none e nfoH)]
      exact k4 _ _ n1 n2 (k3 _ _ n1 n2 e)
    have hsc5 : upd H4 fo (.lst (us ++ [v])) sc = some (.lst ((letsD ds).map V.str)) := by
      rw [upd_ne hsf]
      exact S4.at'
    revert hf5 hs5 sv5 lh5 D5 k5 hsc5
    generalize upd H4 fo (.lst (us ++ [v])) = H5
    intro hf5 hs5 sv5 lh5 D5 k5 hsc5
    obtain ⟨p, w', v1, vs, rfl, hp, hsf', hdp, hfin⟩ := id sv5
    have hlet := hsf'.let'
    have hch' : Chain ts cs (ds ++ [x]) := .snoc ds x hch sx
    refine ⟨.ref fo, rfl, 1, rfl, fo, _, -1, .ref p, rfl, rfl, .inl (.inl hf5), atI_last _ _, p, _, 0, .str w', rfl, rfl, .inl (.inl hp), at0, rfl, _, rfl, ite2 (fun e => ?_) (fun e => ?_)⟩
    · have ew : w' = "let" := V.str.inj (of_decide_eq_true e)
      obtain ⟨z, rfl, hz⟩ := hlet ew
      have hil : isLet x = true := by
        rcases hsf' with ⟨_, h, _⟩ | ⟨h, _⟩ | ⟨h, _⟩
        · exact h
        · rcases h with h | h <;> exact absurd (ew.symm.trans h) (by decide)
        · rcases h with h | h <;> exact absurd (ew.symm.trans h) (by decide)
      obtain ⟨z', hz'⟩ := sx.let' hil
      obtain ⟨p', e', q1, q2⟩ := lh5 z' hz'
      cases q1
      rw [hp] at q2
      have q3 : V.str z = V.str z' := (List.cons.inj (List.cons.inj (HO.tup.inj (Option.some.inj q2))).2).1
      have hml : letsD (ds ++ [x]) = letsD ds ++ [z] := by
        rw [letsD_append]
        show _ ++ [x].filterMap letNm = _
        rw [List.filterMap_cons, hz', V.str.inj q3]
        rfl
      refine ⟨.ref sc, rfl, .inl ⟨rfl, _, .inl (.inl hsc5)⟩, .ref fo, rfl, 1, rfl, fo, _, -1, .ref p, rfl, rfl, .inl (.inl hf5), atI_last _ _, p, _, 1, .str z, rfl, rfl, .inl (.inl hp), at1, sc, _, _, rfl, rfl, hsc5, ?_, ?_⟩
      · rw [List.length_map]
        exact small1000 (by omega)
      have k6 : KeepT H5 (upd H5 sc (.lst ((letsD ds).map V.str ++ [.str z]))) := KeepT.lst hsc5
      refine ⟨_, us ++ [.ref p], ds ++ [x], rfl, fun b o n1 n2 e => ?_, (D5.upd hsc.1 hsc.2).mono (by omega), ?_, svs_keep k6 hs5, by rw [List.length_append, hl]; rfl, ?_, ?_, hch'⟩
      · rw [upd_ne (ne_of_none e nscH)]
        exact k5 b o n1 n2 e
      · rw [upd_ne hsf.symm]
        exact hf5
      · rw [hml]
        refine ⟨by rw [List.map_append]; exact upd_same, hsc, fun y hy => ?_, by rw [List.length_append]; show _ + 1 ≤ 10; omega⟩
        rcases List.mem_append.mp hy with h | h
        · exact S.nm y h
        · rw [List.mem_singleton.mp h]
          exact hz
      · rw [hml, List.length_append]
        show _ + 1 ≤ _
        omega
    · have hil : isLet x = false := by
        rcases hsf' with ⟨h, _⟩ | ⟨_, h, _⟩ | ⟨_, h, _⟩
        · exact absurd (decide_eq_true (congrArg V.str h)) e
        · exact h
        · exact h
      have hml : letsD (ds ++ [x]) = letsD ds := by
        rw [letsD_append]
        show _ ++ [x].filterMap letNm = _
        rw [List.filterMap_cons, isLet_no hil]
        exact List.append_nil _
      exact ⟨_, us ++ [.ref p], ds ++ [x], rfl, k5, D5.mono (by omega), hf5, hs5, by rw [List.length_append, hl]; rfl, by rw [hml]; exact ⟨hsc5, hsc, S.nm, S.len⟩, by rw [hml]; omega, hch'⟩
  · rintro σ H3 ⟨y6, us, ds, rfl, k3, D3, hf, hs, hl, S, hsl, hch⟩
    refine ⟨.ref fo, rfl, fo, us, rfl, .inl ⟨.inl (.inl hf), fun p np => ?_⟩⟩
    have s4 := same_upd (o := .tup us) np
    exact q _ p us ds (k3.trans (Keep.of s4)) ((D3.same s4).mono (by omega)) upd_same (svs_keep (KeepT.of s4) hs) (by omega) hch
end
end L41

namespace WX
open PySem PySem.Spec PySem.AutoSeq1
theorem ext_tup (l : Addr) (items : Array Value) (n : Nat) (b : Addr) (items2 : Array Value) (n2 : Nat) (dd : Option Addr) (sl : Array (Option Value)) (hs0 : ¬(!items.isEmpty && Builtin.List.listTooLong (items.size + items2.size)) = true) (hs1 : items.size ≤ sizeLine) (hs2 : items.size + items2.size ≤ sizeLine + 1) :
    Meets (Builtin.«list.extend» ⟨[.ref l, .ref b], []⟩) (fun _ R s => s.heap.get? l = some { cls := .type "list", dict := none, data := .seq items n, slots := #[] } ∧ s.heap.get? b = some { cls := .type "tuple", dict := dd, data := .seq items2 n2, slots := sl } ∧ R (.ok (.ret Value.none)) { s with heap := s.heap.update l (Obj.mapSeq fun x => x ++ items2), toks := s.toks }) := by
  refine .of_wp fun prog w A R s h => ?_
  obtain ⟨hp, g, d, tk, os⟩ := s
  obtain ⟨hl, hb, h⟩ := h
  have f1 := idx_int
  have f2 := sub_tuple_tuple
  have f3 := sub_list_list
  have f4 := sub_tuple_list
  have f5 := sub_list_tuple
  have hz' : (items ++ items2).size ≤ sizeLine + 1 := by
    rw [Array.size_append]
    exact hs2
  wp_walk using (wpAny_updateSeq hl rfl (hz := hs1) (_hz' := hz')), wpAny_loadPart' hl, wpAny_loadPart' hb
  exact ⟨_, rfl, h⟩
end WX

/-! Words that the hand layer lacks: a list extended by a tuple. -/
namespace WX
open PySem PySem.Spec PyProof.Rows L2
def rExtendT (K : PySem.W.Frag) : V → List V → Hp → VK → Prop := fun x vs H Q => ∃ (l b : Addr) (xs zs : List V), x = .ref l ∧ vs = [.ref b] ∧ H l = some (.lst xs) ∧ SqT K H b zs ∧ xs.length + zs.length ≤ sizeLine ∧ Q .non (upd H l (.lst (xs ++ zs)))
section
variable {X : Cx}
theorem mt_extendT : MtM X "list.extend" (rExtendT X.K) := by
  intro pins s σ H x vs v us Q I rx rv h
  obtain ⟨l, b, xs, zs, rfl, rfl, hH, hB, hz, q⟩ := h
  cases rx
  obtain ⟨u, rfl, ru⟩ := rv.one
  cases ru
  obtain ⟨z, its, n, r, hl, e⟩ := I.lstM hH
  obtain ⟨its2, r2, ⟨⟨c2, d2, dat2, sl2⟩, g2, hc2, n2, hd2⟩, z2⟩ := I.tuple hB
  have hc2 : c2 = .type "tuple" := hc2
  have hd2 : dat2 = .seq its2.toArray n2 := hd2
  subst hc2
  subst hd2
  have hl2 := r2.length
  have small : its.toArray.size + its2.toArray.size ≤ sizeLine := by
    rw [List.size_toArray, List.size_toArray]
    omega
  have short : ¬ (!its.toArray.isEmpty && Builtin.List.listTooLong (its.toArray.size + its2.toArray.size)) = true := by
    rw [notLongL small, Bool.and_false]
    exact Bool.false_ne_true
  refine call_meets F.slot_list_extend ⟨_, e, rfl⟩ F.entry_list_extend (F.args_list_extend_2 _ _)
    (ext_tup l its.toArray n b its2.toArray n2 d2 sl2 short (by rw [List.size_toArray]; omega) (by omega)) ⟨e, g2, ?_⟩
  refine ⟨.non, _, I.lset (its' := its ++ its2) hH e (by simp) (r.append r2) ?_, rfl, q⟩
  rw [List.length_append]
  omega
/-- a list extended by a list or by a tuple -/
def rExtendA (K : PySem.W.Frag) : V → List V → Hp → VK → Prop := fun x vs H Q => rExtend x vs H Q ∨ rExtendT K x vs H Q
theorem mt_extendA : MtM X "list.extend" (rExtendA X.K) := by
  intro pins s σ H x vs v us Q I rx rv h
  rcases h with h | h
  · exact mt_extend pins s σ H x vs v us Q I rx rv h
  · exact mt_extendT pins s σ H x vs v us Q I rx rv h
end
end WX

/-! Words that the hand layer lacks: a call by place of a def with a star; max(list of ints, default=); frozen tuples; dict(tuple of pairs). -/
namespace SC
open PySem PySem.Spec PyProof.Rows L2
section
variable {X : Cx} {CX : CXT} {k : Nat} {f : Addr} {sp : Sp} {E : XK} {x : Str} {e : Expr} {es : List Expr} {t : TA} {p pos : Pos}
theorem pe_callR (F : FnR X.prog X.w X.K X.mg X.base CX k f sp) (hr : Room k X.A) (hg : Gl X x) (hm : X.mg x = some (.ref f)) (hk : PySem.W.keepIn X.K (.ref f) = true) (hx : Passes CX X E)
    (ha : PA X (e :: es) t) (hdb : (x == ("__debug__" : Str)) = false := by decide) (he : starEach (e :: es) X.env = (false, eval e X.env) :: starEach es X.env := by rfl) (hpl : (backTo pos (starEach es X.env)).any (·.1) = false := by rfl) :
    PE X (.Call (.Name x p) (e :: es) [] pos) (tCall sp [] E t) := by
  refine ⟨fun pins s σ H Q I h => ?_⟩
  refine wpAny_Call_Name_kw (ld_glob I hg hm ?_ hdb)
  refine PySem.W.callWith_K (h₀ := X.base) I.ok.mod.kin hk (thn (ha.run pos pins s σ H _ I h) fun us s1 ⟨vs, H1, I1, r, q⟩ => ⟨I1.kIn, ?_⟩) he hpl
  have q : sp (vs ++ []) H1 Q E := q
  rw [List.append_nil] at q
  exact wpAny_call (run_fnR F hr hx I1 r q)
theorem pe_callR0 (F : FnR X.prog X.w X.K X.mg X.base CX k f sp) (hr : Room k X.A) (hg : Gl X x) (hm : X.mg x = some (.ref f)) (hk : PySem.W.keepIn X.K (.ref f) = true) (hx : Passes CX X E)
    (hdb : (x == ("__debug__" : Str)) = false := by decide) : PE X (.Call (.Name x p) [] [] pos) (tCall sp [] E tNil) := by
  refine ⟨fun pins s σ H Q I h => ?_⟩
  refine wpAny_Call_Name_kw (ld_glob I hg hm ?_ hdb)
  exact PySem.W.callWith_K0 I.kIn hk (wpAny_call (run_fnR (us := []) F hr hx I .nil h))
end
/-! ### max of a list of ints, with a default -/
def rMaxI (K : PySem.W.Frag) : List V → List V → Hp → VK → Prop := fun vs zs H Q => ∃ (a : Addr) (ns : List Int) (d : V), vs = [.ref a] ∧ zs = [d] ∧ SqL K H a (ns.map V.int) ∧ ns ≠ [] ∧ ∀ n, n ∈ ns → (∀ m, m ∈ ns → m ≤ n) → Q (.int n) H
theorem holdAll_ints {h : Heap} : ∀ {ns : List Int} {us : List Value}, Vals (ns.map V.int) us → PySem.W.HoldAll h us ns
  | [], us, r => by
    rw [List.map_nil] at r
    cases r
    exact ⟨[], .nil⟩
  | n :: ns, us, r => by
    rw [List.map_cons] at r
    cases r with
    | cons a b =>
      obtain ⟨t, rfl⟩ := a
      obtain ⟨as, ih⟩ := holdAll_ints b
      exact ⟨_, .cons (.int n t) ih⟩
theorem maxI_ge : ∀ (xs : List Int) (x : Int), x ≤ PySem.W.maxOf x xs ∧ ∀ y, y ∈ xs → y ≤ PySem.W.maxOf x xs
  | [], x => ⟨Int.le_refl _, fun y h => nomatch h⟩
  | z :: xs, x => by
    have e : PySem.W.maxOf x (z :: xs) = PySem.W.maxOf (if x < z then z else x) xs := by
      show List.foldl _ _ xs = List.foldl _ _ xs
      congr 1
      show (if decide (x < z) = true then z else x) = _
      by_cases h : x < z
      · rw [if_pos h, if_pos (decide_eq_true h)]
      · rw [if_neg h, if_neg (by simpa using h)]
    obtain ⟨h1, h2⟩ := maxI_ge xs (if x < z then z else x)
    rw [e]
    refine ⟨Int.le_trans ?_ h1, fun y hy => ?_⟩
    · split <;> omega
    · rcases List.mem_cons.mp hy with rfl | hy
      · exact Int.le_trans (by split <;> omega) h1
      · exact h2 y hy
section
variable {X : Cx}
theorem cr_maxD (hc : X.calm = true) (hu : X.A.units + 1 + 0 < cLine) : CallRK X (.builtin "max") [Str.ofString "default"] (rMaxI X.K) := by
  intro pins s σ H vs zs us ws Q I r rz h
  obtain ⟨a, ns, d, rfl, rfl, hs, h0, q⟩ := h
  obtain rfl := Vals.ref1 r
  obtain ⟨w1, rfl, e1⟩ := vals1 rz
  obtain ⟨its, rv, hl, hz⟩ := I.list hs
  refine PySem.W.max_list_datum_default (α := Int) (I.ok.hd hc) hl.isList (holdAll_ints (by simpa using rv)) hu (fun z => absurd z h0) fun y ys i v h' tk e hi hv hk => ?_
  subst e
  obtain ⟨as, hv⟩ := hv
  obtain ⟨t, rfl, _⟩ := PyProof.Rows.reads_int_inv hv
  have hm : PySem.W.maxOf y ys ∈ y :: ys := by
    have hi' : its[i]? = some (.int (PySem.W.maxOf y ys) t) := by simpa using hi
    have hlt : i < its.length := (List.getElem?_eq_some_iff.mp hi').1
    rw [← rv.length, List.length_map] at hlt
    obtain ⟨u, g1, g2⟩ := rv.get (show ((y :: ys).map V.int)[i]? = some (V.int ((y :: ys)[i])) by rw [List.getElem?_map, List.getElem?_eq_getElem hlt]; rfl)
    rw [hi'] at g1
    cases g1
    obtain ⟨t', e'⟩ := g2
    have e2 : PySem.W.maxOf y ys = (y :: ys)[i] := by injection e'
    rw [e2]
    exact List.getElem_mem hlt
  have hg := maxI_ge ys y
  exact ⟨.int _, H, I.kept (t' := tk) hk, ⟨t, rfl⟩, q _ hm fun m hm' => by
    rcases List.mem_cons.mp hm' with rfl | hm'
    · exact hg.1
    · exact hg.2 m hm'⟩
end
/-! ### tuples whose objects are known; dict of such -/
/-- a tuple of which it is known that its object holds no dict -/
def TupF (H : Hp) (a : Addr) (xs : List V) : Prop := ∃ o : Obj, H a = some (.frz o (.tup xs)) ∧ o.dict = none
theorem TupF.sq {K : PySem.W.Frag} {H : Hp} {a : Addr} {xs : List V} (h : TupF H a xs) : SqT K H a xs := let ⟨o, e, _⟩ := h; .inl (.inr ⟨o, e⟩)
section
variable {X : Cx}
theorem call_tupleF : CallR X (.type "tuple") (fun xs H Q => ∃ p ys, xs = [.ref p] ∧ SqL X.K H p ys ∧ ∀ l o, o.dict = none → H l = none → Q (.ref l) (upd H l (.frz o (.tup ys)))) := by
  intro pins s σ H xs us Q I r h
  obtain ⟨p, ys, rfl, hq, q⟩ := h
  obtain ⟨u, rfl, rx⟩ := vals1 r
  cases rx
  obtain ⟨its, r', pl, hz⟩ := I.list hq
  have hlen := r'.length
  refine call_tuple_list pl.isList (fun h' kp => ?_) (by simp only [List.size_toArray] <;> omega)
  have I1 : Inv X pins σ H { s with heap := h' } := I.kept (t' := s.toks) kp
  have I2 : Inv X pins σ (upd H h'.objs.size (.frz { cls := .type "tuple", data := .seq its.toArray } (.tup ys))) { s with heap := h'.push { cls := .type "tuple", data := .seq its.toArray } } :=
    I1.laid (t' := s.toks) (fun b o e => Heap.get?_push_of_some _ e) (Nat.le_refl _) (show ObjOk X.prog X.w _ _ _ (.frz _ (.tup ys)) from ⟨Heap.get?_push_size _ rfl, hz, its, r', IsTup.new _ _⟩)
  exact ⟨.ref h'.objs.size, _, I2, rfl, q _ _ rfl (I1.hok.fresh (Nat.le_refl _))⟩
theorem pairs_of2 {pins : List (Addr × Obj)} {σ : L2.St} {H : Hp} {s : Shared} (I : Inv X pins σ H s) : ∀ {ps : List Addr} {kvs : List (Key × V)}, Paired (fun p kv => SqT X.K H p [kV kv.1, kv.2]) ps kvs →
    ∃ (prs : List (Key × Value)) (qs : List (Value × Value)), KV kvs prs ∧ prs.length = ps.length ∧ qs.length = ps.length ∧
      (∀ (j : Nat) (u v : Value), qs[j]? = some (u, v) → ∃ (b : Addr) (k : Key), ps[j]? = some b ∧ prs[j]? = some (k, v) ∧ IsTup s.heap b #[u, v] ∧ keyIs k u = true)
  | _, _, .nil => ⟨[], [], .nil, rfl, rfl, fun j u v e => by simp at e⟩
  | _, _, .cons (a := p) (b := kv) h t => by
    obtain ⟨prs, qs, r, hl, hl2, hp⟩ := pairs_of2 I t
    obtain ⟨its, rv, ht, _⟩ := I.tuple h
    obtain ⟨u, y, ei, ru, ry⟩ := vals2 rv
    subst ei
    refine ⟨(kv.1, y) :: prs, (u, y) :: qs, .cons ⟨rfl, ry⟩ r, by rw [List.length_cons, List.length_cons, hl], by rw [List.length_cons, List.length_cons, hl2], fun j u' v' e => ?_⟩
    cases j with
    | zero =>
      have e' : (u, y) = (u', v') := Option.some.inj e
      cases e'
      exact ⟨p, kv.1, rfl, rfl, ht, kV_is (P := X.prog) (w := X.w) ru⟩
    | succ j =>
      obtain ⟨b, k, e1, e2, e3, e4⟩ := hp j u' v' (by simpa using e)
      exact ⟨b, k, by simpa using e1, by simpa using e2, e3, e4⟩
theorem call_dictT (hcalm : X.calm = true) : CallR X (.type "dict") (fun xs H Q => ∃ (a : Addr) (ps : List Addr) (kvs : List (Key × V)), xs = [.ref a] ∧ TupF H a (ps.map V.ref) ∧ Paired (fun p kv => SqT X.K H p [kV kv.1, kv.2]) ps kvs ∧
    ∀ p, H p = none → Q (.ref p) (upd H p (.dK (mergeK [] kvs)))) := by
  intro pins s σ H xs us Q I r q
  obtain ⟨a, ps, kvs, ex, ⟨o, hq, hdn⟩, hp, q⟩ := q
  subst ex
  obtain ⟨u, eu, rx⟩ := vals1 r
  subst eu
  cases rx
  obtain ⟨ho, hz, its, rv, o', ho', hc, n, hdat⟩ := I.hok _ _ hq
  rw [ho] at ho'
  cases ho'
  have ei := refs_at rv
  subst ei
  rw [List.length_map] at hz
  obtain ⟨prs, qs, rel, hl, hl2, hpr⟩ := pairs_of2 I hp
  refine PySem.call_dict_pairs (knd := mixKind X.prog X.w) (kvs := prs) (PySem.PairArg.tuple a (ps.map Value.ref).toArray (fun j => ps.getD j 0) qs) (I.ok.hd hcalm) ⟨⟨o, n, ho, hc, hdn, hdat⟩, by simp [hl2], fun j k v e => ?_⟩ ⟨by rw [hl, hl2], fun i key v e => ?_⟩ (by rw [hl2]; exact hz) fun h' tk hd' k => ?_
  · obtain ⟨b, k', e1, e2, e3, e4⟩ := hpr j k v e
    have eb : ps.getD j 0 = b := by rw [List.getD_eq_getElem?_getD, e1]; rfl
    show _ ∧ PySem.PairAt s.heap (ps.getD j 0) k v
    rw [eb]
    exact ⟨by simp [e1], .inl e3⟩
  · obtain ⟨b, k', e1, e2, e3, e4⟩ := hpr i key v e
    exact ⟨k', e2, e4⟩
  · have hm : (s.heap.objs.size == sysModules) = false := beq_eq_false_iff_ne.mpr (Nat.ne_of_gt I.big)
    have hlen : (mergeK [] kvs).length ≤ sizeLine := by
      refine Nat.le_trans (length_mergeK kvs []) ?_
      rw [List.length_nil, Nat.zero_add, rel.length, hl]
      exact hz
    exact ⟨.ref s.heap.objs.size, upd H s.heap.objs.size (.dK (mergeK [] kvs)), I.laid (t' := tk) (fun b ob e => k b ob (fun z => nomatch z) e) (Nat.le_refl _) (show ObjOk X.prog X.w _ _ _ (.dK (mergeK [] kvs)) from ⟨hlen, hm, merged [] prs, KV.merge rel .nil, hd'⟩), rfl, q _ (I.hok.fresh (Nat.le_refl _))⟩
end
end SC

namespace L41
open PySem PySem.Spec PyProof.Rows L2 GR
abbrev aggs : List (Str × Nat) := [("count", 2), ("sum", 3), ("most", 4), ("first", 3)]
abbrev opws : List Str := ["+", "-", "*", "<", "=", "at"]
/-- one that contains none -/
inductive Leaf (zs : List Str) : PyData → Prop
  | int (i : Int) : -(10 ^ 18) ≤ i → i ≤ 10 ^ 18 → Leaf zs (.tuple [.str "int", .int i])
  | let_ (i : Int) : 0 ≤ i → i ≤ 10000 → Leaf zs (.tuple [.str "let", .int i])
  | key : Leaf zs (.tuple [.str "key"])
  | var (z : Str) : z ∈ zs → Leaf zs (.tuple [.str "var", .str z])
/-- an expression of depth n at most; its names are among zs -/
inductive Ex (zs : List Str) : Nat → PyData → Prop
  | leaf (n : Nat) (x : PyData) : Leaf zs x → Ex zs (n + 1) x
  | cell (n : Nat) (t v : Str) (x : PyData) : t ∈ zs → v ∈ zs → Ex zs n x → Ex zs (n + 1) (.tuple [.str "cell", .str t, x, .str v])
  | op (n : Nat) (o : Str) (x y : PyData) : o ∈ opws → Ex zs n x → Ex zs n y → Ex zs (n + 1) (.tuple [.str o, x, y])
  | iff (n : Nat) (x y z : PyData) : Ex zs n x → Ex zs n y → Ex zs n z → Ex zs (n + 1) (.tuple [.str "if", x, y, z])
  | agg (n : Nat) (o t : Str) (xs ys : List PyData) : (o, ys.length) ∈ aggs → t ∈ zs → xs.length ≤ 40 → (∀ x, x ∈ xs → Ex zs n x) → (∀ y, y ∈ ys → Ex zs n y) → Ex zs (n + 1) (.tuple (.str o :: .str t :: .tuple xs :: ys))
theorem Ex.mono {zs : List Str} : ∀ {n m : Nat} {x : PyData}, Ex zs n x → n ≤ m → Ex zs m x := by
  intro n m x h
  induction h generalizing m with
  | leaf n x h =>
    intro hm
    obtain ⟨k, rfl⟩ : ∃ k, m = k + 1 := ⟨m - 1, by omega⟩
    exact .leaf k x h
  | cell n t v x h1 h2 h3 ih =>
    intro hm
    obtain ⟨k, rfl⟩ : ∃ k, m = k + 1 := ⟨m - 1, by omega⟩
    exact .cell k t v x h1 h2 (ih (by omega))
  | op n o x y h1 h2 h3 ih1 ih2 =>
    intro hm
    obtain ⟨k, rfl⟩ : ∃ k, m = k + 1 := ⟨m - 1, by omega⟩
    exact .op k o x y h1 (ih1 (by omega)) (ih2 (by omega))
  | iff n x y z h1 h2 h3 ih1 ih2 ih3 =>
    intro hm
    obtain ⟨k, rfl⟩ : ∃ k, m = k + 1 := ⟨m - 1, by omega⟩
    exact .iff k x y z (ih1 (by omega)) (ih2 (by omega)) (ih3 (by omega))
  | agg n o t xs ys h1 h2 h3 h4 h5 ih1 ih2 =>
    intro hm
    obtain ⟨k, rfl⟩ : ∃ k, m = k + 1 := ⟨m - 1, by omega⟩
    exact .agg k o t xs ys h1 h2 h3 (fun x hx => ih1 x hx (by omega)) (fun y hy => ih2 y hy (by omega))
theorem Ex.flat {zs : List Str} : ∀ {n : Nat} {x : PyData}, Ex zs n x → flatD x = true := by
  intro n x h
  induction h with
  | leaf n x h => cases h <;> simp only [flatD, flatDs, Bool.and_self]
  | cell n t v x h1 h2 h3 ih => simp only [flatD, flatDs, ih, Bool.and_self]
  | op n o x y h1 h2 h3 ih1 ih2 => simp only [flatD, flatDs, ih1, ih2, Bool.and_self]
  | iff n x y z h1 h2 h3 ih1 ih2 ih3 => simp only [flatD, flatDs, ih1, ih2, ih3, Bool.and_self]
  | agg n o t xs ys h1 h2 h3 h4 h5 ih1 ih2 => simp only [flatD, flatDs, flatDs_of ih1, flatDs_of ih2, Bool.and_self]
end L41

namespace L41
open PySem PySem.Spec PyProof.Rows L2 GR
/-- what stands behind each word -/
def table : List (Str × List Str) := [("int", ["value"]), ("var", ["name"]), ("key", []), ("let", ["position"]), ("cell", ["name", "free", "name"]), ("+", ["free", "free"]), ("-", ["free", "free"]), ("*", ["free", "free"]), ("<", ["free", "free"]), ("=", ["free", "free"]),
  ("if", ["free", "free", "free"]), ("at", ["free", "bound"]), ("count", ["name", "extra", "bound", "bound"]), ("sum", ["name", "extra", "bound", "bound", "bound"]), ("most", ["name", "extra", "bound", "bound", "bound", "free"]), ("first", ["name", "extra", "bound", "bound", "free"])]
def items : PyData → List PyData
  | .tuple xs => xs
  | _ => []
def pick (wanted : List Str) : List Str → List PyData → List PyData
  | f :: fs, d :: ds => (if f = "extra" then items d else if f ∈ wanted then [d] else []) ++ pick wanted fs ds
  | _, _ => []
/-- what stands behind the word fits its kinds, as far as contained_of asks -/
inductive Fits : List Str → List PyData → Prop
  | nil : Fits [] []
  | cons {f : Str} {d : PyData} {fs : List Str} {ds : List PyData} : (f = "extra" → ∃ xs, d = .tuple xs) → Fits fs ds → Fits (f :: fs) (d :: ds)
/-- the form of an expression -/
def Form (x : PyData) (w : Str) (fs : List Str) (rest : List PyData) : Prop := x = .tuple (.str w :: rest) ∧ (w, fs) ∈ table ∧ Fits fs rest
theorem fit1 {f : Str} {d : PyData} {fs : List Str} {ds : List PyData} (h : f ≠ "extra") (t : Fits fs ds) : Fits (f :: fs) (d :: ds) := .cons (fun e => absurd e h) t
theorem Ex.form {zs : List Str} {n : Nat} {x : PyData} (h : Ex zs n x) : ∃ w fs rest, Form x w fs rest := by
  cases h with
  | leaf n x h =>
    cases h with
    | int i _ _ => exact ⟨"int", ["value"], _, rfl, by decide, fit1 (by decide) .nil⟩
    | let_ i _ _ => exact ⟨"let", ["position"], _, rfl, by decide, fit1 (by decide) .nil⟩
    | key => exact ⟨"key", [], _, rfl, by decide, .nil⟩
    | var z _ => exact ⟨"var", ["name"], _, rfl, by decide, fit1 (by decide) .nil⟩
  | cell n t v x h1 h2 h3 => exact ⟨"cell", ["name", "free", "name"], _, rfl, by decide, fit1 (by decide) (fit1 (by decide) (fit1 (by decide) .nil))⟩
  | op n o x y h1 h2 h3 =>
    simp only [opws, List.mem_cons, List.not_mem_nil, or_false] at h1
    rcases h1 with rfl | rfl | rfl | rfl | rfl | rfl
    · exact ⟨_, ["free", "free"], _, rfl, by decide, fit1 (by decide) (fit1 (by decide) .nil)⟩
    · exact ⟨_, ["free", "free"], _, rfl, by decide, fit1 (by decide) (fit1 (by decide) .nil)⟩
    · exact ⟨_, ["free", "free"], _, rfl, by decide, fit1 (by decide) (fit1 (by decide) .nil)⟩
    · exact ⟨_, ["free", "free"], _, rfl, by decide, fit1 (by decide) (fit1 (by decide) .nil)⟩
    · exact ⟨_, ["free", "free"], _, rfl, by decide, fit1 (by decide) (fit1 (by decide) .nil)⟩
    · exact ⟨_, ["free", "bound"], _, rfl, by decide, fit1 (by decide) (fit1 (by decide) .nil)⟩
  | iff n x y z h1 h2 h3 => exact ⟨"if", ["free", "free", "free"], _, rfl, by decide, fit1 (by decide) (fit1 (by decide) (fit1 (by decide) .nil))⟩
  | agg n o t xs ys h1 h2 h3 h4 h5 =>
    have tl : ∀ d : PyData, (("extra" : Str) = "extra" → ∃ us, d = .tuple us) ∨ True := fun _ => .inr trivial
    simp only [aggs, List.mem_cons, List.not_mem_nil, or_false, Prod.mk.injEq] at h1
    rcases h1 with ⟨rfl, h⟩ | ⟨rfl, h⟩ | ⟨rfl, h⟩ | ⟨rfl, h⟩
    · match ys, h with
      | [_, _], _ => exact ⟨_, ["name", "extra", "bound", "bound"], _, rfl, by decide, fit1 (by decide) (.cons (fun _ => ⟨xs, rfl⟩) (fit1 (by decide) (fit1 (by decide) .nil)))⟩
    · match ys, h with
      | [_, _, _], _ => exact ⟨_, ["name", "extra", "bound", "bound", "bound"], _, rfl, by decide, fit1 (by decide) (.cons (fun _ => ⟨xs, rfl⟩) (fit1 (by decide) (fit1 (by decide) (fit1 (by decide) .nil))))⟩
    · match ys, h with
      | [_, _, _, _], _ => exact ⟨_, ["name", "extra", "bound", "bound", "bound", "free"], _, rfl, by decide, fit1 (by decide) (.cons (fun _ => ⟨xs, rfl⟩) (fit1 (by decide) (fit1 (by decide) (fit1 (by decide) (fit1 (by decide) .nil)))))⟩
    · match ys, h with
      | [_, _, _], _ => exact ⟨_, ["name", "extra", "bound", "bound", "free"], _, rfl, by decide, fit1 (by decide) (.cons (fun _ => ⟨xs, rfl⟩) (fit1 (by decide) (fit1 (by decide) (fit1 (by decide) .nil))))⟩
/-- the written table at fA -/
def Flds (K : PySem.W.Frag) (w : World) (fA : Addr) : Prop := ∀ wd fs, (wd, fs) ∈ table → ∃ p, KDct K w fA wd (.ref p) ∧ ∀ H, SqT K H p (fs.map V.str)
end L41
namespace L41
open PySem PySem.Spec PyProof.Rows L2 GR
/-- what one field gives -/
def pick1 (wanted : List Str) (f : Str) (d : PyData) : List PyData := if f = "extra" then items d else if f ∈ wanted then [d] else []
theorem pick_take (W : List Str) : ∀ {fs : List Str} {ds : List PyData} (i : Nat) {f : Str} {d : PyData}, fs[i]? = some f → ds[i]? = some d → pick W (fs.take (i + 1)) (ds.take (i + 1)) = pick W (fs.take i) (ds.take i) ++ pick1 W f d
  | f0 :: fs, d0 :: ds, 0, f, d, hf, hd => by
    cases hf
    cases hd
    simp only [List.take_succ_cons, List.take_zero, pick, pick1, List.append_nil, List.nil_append]
  | f0 :: fs, d0 :: ds, i + 1, f, d, hf, hd => by
    rw [List.getElem?_cons_succ] at hf hd
    have := pick_take W i hf hd
    simp only [List.take_succ_cons, pick]
    rw [this, List.append_assoc]
  | [], _, _, _, _, hf, _ => by simp at hf
  | _ :: _, [], _, _, _, _, hd => by simp at hd
theorem pick_len (W : List Str) : ∀ {fs : List Str} {ds : List PyData} (i : Nat), (pick W (fs.take i) (ds.take i)).length ≤ (pick W fs ds).length
  | f0 :: fs, d0 :: ds, 0 => by simp only [List.take_zero, pick]; exact Nat.zero_le _
  | f0 :: fs, d0 :: ds, i + 1 => by
    have := pick_len W (fs := fs) (ds := ds) i
    simp only [List.take_succ_cons, pick, List.length_append]
    omega
  | [], ds, i => by simp only [List.take_nil, pick]; exact Nat.zero_le _
  | f0 :: fs, [], i => by
    simp only [List.take_nil]
    cases fs.take i <;> cases i <;> simp [pick]
theorem flatDs_at : ∀ {ds : List PyData} {i : Nat} {d : PyData}, flatDs ds = true → ds[i]? = some d → flatD d = true
  | d0 :: ds, 0, d, h, e => by
    cases e
    rw [flatDs, Bool.and_eq_true] at h
    exact h.1
  | d0 :: ds, i + 1, d, h, e => by
    rw [flatDs, Bool.and_eq_true] at h
    rw [List.getElem?_cons_succ] at e
    exact flatDs_at h.2 e
  | [], _, _, _, e => by simp at e
theorem flat_pick1 {W : List Str} {f : Str} {d : PyData} (h : flatD d = true) : flatDs (pick1 W f d) = true := by
  unfold pick1
  split
  · cases d <;> simp only [items, flatDs]
    rw [flatD] at h
    exact h
  · split
    · rw [flatDs, h, flatDs]
      rfl
    · rw [flatDs]
theorem flat_pick {W : List Str} : ∀ {fs : List Str} {ds : List PyData}, flatDs ds = true → flatDs (pick W fs ds) = true
  | f :: fs, d :: ds, h => by
    rw [flatDs, Bool.and_eq_true] at h
    exact flatDs_append (flat_pick1 (W := W) (f := f) h.1) (flat_pick h.2)
  | [], _, _ => by simp only [pick, flatDs]
  | _ :: _, [], _ => by simp only [pick, flatDs]
theorem flatDs_take {ds : List PyData} (i : Nat) (h : flatDs ds = true) : flatDs (ds.take i) = true := by
  induction ds generalizing i with
  | nil => simp only [List.take_nil, flatDs]
  | cons d ds ih =>
    rw [flatDs, Bool.and_eq_true] at h
    cases i with
    | zero => simp only [List.take_zero, flatDs]
    | succ i =>
      rw [List.take_succ_cons, flatDs, h.1, ih i h.2]
      rfl
theorem Fits.len {fs : List Str} {ds : List PyData} (h : Fits fs ds) : fs.length = ds.length := by
  induction h with
  | nil => rfl
  | cons _ _ ih => rw [List.length_cons, List.length_cons, ih]
theorem Fits.at' {fs : List Str} {ds : List PyData} (h : Fits fs ds) : ∀ {i : Nat} {d : PyData}, fs[i]? = some ("extra" : Str) → ds[i]? = some d → ∃ xs, d = .tuple xs := by
  induction h with
  | nil =>
    intro i d e
    simp at e
  | cons h1 h2 ih =>
    intro i d e1 e2
    cases i with
    | zero =>
      simp only [List.getElem?_cons_zero, Option.some.injEq] at e1 e2
      obtain ⟨xs, rfl⟩ := h1 e1
      exact ⟨xs, e2.symm⟩
    | succ i =>
      rw [List.getElem?_cons_succ] at e1 e2
      exact ih e1 e2
end L41

namespace L41
open PySem PySem.Spec PyProof.Rows L2 GR WX RZ
section
variable {P : Program} {w : World} {K : PySem.W.Frag} {mg : Str → Option Value} {base : Heap}
abbrev s_contained_of : Stmt := topS 5
theorem sc_contained_of : FnScope ["expression", "wanted", "found", "kind", "part"] ["expression", "wanted"] (defScope s_contained_of) := ⟨rfl, rfl, rfl, by decide +kernel, rfl, by decide +kernel, by decide +kernel⟩
def sp_contained_of (K : PySem.W.Frag) : Sp := fun vs H Q _ => ∃ (a wA : Addr) (wd : Str) (fs wanted : List Str) (rest : List PyData), vs = [.ref a, .ref wA] ∧ Dp K H (.ref a) (.tuple (.str wd :: rest)) ∧ (wd, fs) ∈ table ∧ Fits fs rest ∧ flatDs rest = true ∧ (pick wanted fs rest).length ≤ 1000 ∧ SqT K H wA (wanted.map V.str) ∧
  ∀ H' p us, Same H H' → H p = none → H' p = some (.lst us) → DpAll K H' us (pick wanted fs rest) → Q (.ref p) H'
theorem wanted_in (f : Str) (W : List Str) : inV (.str f) (W.map V.str) = decide (f ∈ W) := by
  unfold inV
  rw [List.any_map, Bool.eq_iff_iff, List.any_eq_true, decide_eq_true_eq]
  constructor
  · rintro ⟨z, hz, e⟩
    have : eqV (.str z) (.str f) = true := e
    have e2 : z = f := by
      simpa [eqV] using this
    exact e2 ▸ hz
  · intro h
    exact ⟨f, h, by show eqV (.str f) (.str f) = true; simp [eqV]⟩
theorem flat_strs (W : List Str) : (W.map V.str).all flatV = true := by
  rw [List.all_map, List.all_eq_true]
  intro z _
  rfl
theorem ok_contained_of {f fA : Addr} {fd : FuncData} {k : Nat} (F : Fun K "contained_of" "contained_of" s_contained_of f fd) (mFIELDS : mg "FIELDS" = some (.ref fA)) (T : Flds K w fA) (mzip : mg "zip" = none) :
    FnOk P w K mg base CX0 (k + 1) f fd ["expression", "wanted"] (sp_contained_of K) := by
  have nd := sc_contained_of.nd
  refine F.ok sc_contained_of (fun vs H Q E h => ?_) (fun cdv A outer s H vs Q E hr h => ?_)
  · obtain ⟨a, wA, wd, fs, wanted, rest, rfl, _⟩ := h
    rfl
  obtain ⟨a, wA, wd, fs, wanted, rest, rfl, hd, ht, hfit, hflat, hlen, hW, q⟩ := h
  refine ⟨_, (pss_cons (ps_set (i := 2) nd rfl (.inl rfl) (pe_lst pa_nil))
      (pss_cons (ps_for PassesOwn.never rfl (pi_zipA (by rfl) mzip (pa_cons (pe_ix ix_kdict (pe_glob rfl mFIELDS (v := .ref fA) rfl) (pe_ix ix_tup (pv 0) pe_int (fun _ _ => rfl)) (fun _ _ => rfl)) (pa_cons (pe_slice L2.sl_tup (pv 0) (po_some pe_int) po_none) pa_nil))) (pg_tup rfl (pgs_cons (pg_name (i := 3) nd rfl (Or.inl rfl)) (pgs_cons (pg_name (i := 4) nd rfl (Or.inl rfl)) pgs_nil)))
      (pss_one (ps_if (pt_cmpR op_eq (pv 3) pe_str (nomark _))
        (pss_one (ps_expr (pe_bm PySem.F.plainAttrs_list PySem.F.slot_list_extend PySem.F.type_list_extend mt_extendT (pv 2) (pa_cons (pv 4) pa_nil))))
        (pss_one (ps_if (pt_cmpR op_in_seq (pv 3) (pv 1) (by rfl))
          (pss_one (ps_expr (pe_bm PySem.F.plainAttrs_list PySem.F.slot_list_append PySem.F.type_list_append mt_append (pv 2) (pa_cons (pv 4) pa_nil))))
          pss_nil)))))
      (pss_one (ps_ret (pv 2))))), ?_⟩
  cases hd with
  | tup hS hA =>
  cases hA with
  | cons hw hA =>
  cases hw
  rename_i vs0
  obtain ⟨fp, hK, hF⟩ := T wd fs ht
  have hl0 := dpAll_len hA
  refine ⟨Nat.zero_le _, fun fo nfo => ?_⟩
  have sf := same_upd (o := .lst []) nfo
  refine ⟨.ref a, rfl, a, _, 0, .str wd, rfl, rfl, (KeepT.of sf).seqt hS, at0, fA, wd, .ref fp, rfl, rfl, hK, .ref a, rfl, 1, rfl, a, _, rfl, (KeepT.of sf).seqt hS, ?_, fun c nc => ?_⟩
  · rw [List.length_cons]
    rintro ⟨e, _⟩
    have : HT.sIx (vs0.length + 1) 0 (some 1) = min 1 (vs0.length + 1) := HT.sIx_nat _ _ 1
    rw [this] at e
    omega
  have hcut : cutV (.str wd :: vs0) (some 1) none = vs0 := by
    unfold cutV
    rw [HT.sIx_none, show HT.sIx (V.str wd :: vs0).length 0 (some 1) = min 1 (V.str wd :: vs0).length from HT.sIx_nat _ _ 1, List.length_cons, show min 1 (vs0.length + 1) = 1 by omega, List.drop_succ_cons, List.drop_zero, show vs0.length + 1 - 1 = vs0.length by omega, List.take_length]
  rw [hcut]
  have sc := same_upd (o := .tup vs0) nc
  have hc1 : upd (upd H fo (.lst [])) c (.tup vs0) c = some (.tup vs0) := upd_same
  have hf1 := sc _ _ (show upd H fo (.lst []) fo = _ from upd_same)
  have s2 := sf.trans sc
  revert hc1 hf1 s2
  generalize upd (upd H fo (.lst [])) c (.tup vs0) = H1
  intro hc1 hf1 s2
  have hl : (fs.map V.str).length = vs0.length := by rw [List.length_map, hfit.len, hl0]
  refine ⟨fp, c, fs.map V.str, vs0, rfl, .inr ⟨hF H1, .inl (.inl hc1), ?_⟩⟩
  refine for_zipT hl (fun i σ H' => ∃ (y3 y4 : Option V) (us : List V), σ = [some (.ref a), some (.ref wA), some (.ref fo), y3, y4] ∧ H' fo = some (.lst us) ∧ DpAll K H' us (pick wanted (fs.take i) (rest.take i)) ∧ (∀ b o, b ≠ fo → H1 b = some o → H' b = some o)) ?_ ?_ ?_ ?_
  · refine ⟨none, none, [], rfl, hf1, ?_, fun b o _ e => e⟩
    simp only [List.take_zero, pick]
    exact .nil
  · rintro i σ H' ⟨y3, y4, us, rfl, hu, hdp, kk⟩
    exact ⟨hF H', .inl (.inl (kk _ _ (ne_of hc1 hf1 (fun z => by cases z)) hc1))⟩
  · rintro i x y t σ H' hx hy ⟨y3, y4, us, rfl, hu, hdp, kk⟩ nt
    rw [List.getElem?_map] at hx
    obtain ⟨fi, hfi, rfl⟩ : ∃ fi, fs[i]? = some fi ∧ x = .str fi := by
      cases e : fs[i]? with
      | none =>
        rw [e] at hx
        cases hx
      | some fi =>
        rw [e] at hx
        cases hx
        exact ⟨fi, rfl, rfl⟩
    obtain ⟨di, hdi, hyd⟩ := dpAll_at hA hy
    have st := same_upd (o := .tup [.str fi, y]) nt
    have kt : KeepT H (upd H' t (.tup [.str fi, y])) := ⟨fun b xs e => st _ _ (kk _ _ (ne_of_none e nfo) (s2 _ _ e)), fun b o xs e => st _ _ (kk _ _ (ne_of_none e nfo) (s2 _ _ e))⟩
    have fdi := flatDs_at hflat hdi
    have hyd2 := dp_keep kt _ _ fdi hyd
    have hu2 := st _ _ hu
    have ntf : t ≠ fo := (ne_of_none hu nt).symm
    have hp : pick wanted (fs.take (i + 1)) (rest.take (i + 1)) = pick wanted (fs.take i) (rest.take i) ++ pick1 wanted fi di := pick_take wanted i hfi hdi
    have hl2 := pick_len wanted (fs := fs) (ds := rest) (i + 1)
    have hlu := dpAll_len hdp
    have fpk : flatDs (pick wanted (fs.take i) (rest.take i)) = true := flat_pick (flatDs_take i hflat)
    rw [hp, List.length_append] at hl2
    -- what is put behind us
    have turn : ∀ zs' : List V, DpAll K (upd H' t (.tup [.str fi, y])) zs' (pick1 wanted fi di) → ∃ (z3 z4 : Option V) (us' : List V), [some (.ref a), some (.ref wA), some (.ref fo), some (.str fi), some y] = [some (.ref a), some (.ref wA), some (.ref fo), z3, z4] ∧
        upd (upd H' t (.tup [.str fi, y])) fo (.lst (us ++ zs')) fo = some (.lst us') ∧ DpAll K (upd (upd H' t (.tup [.str fi, y])) fo (.lst (us ++ zs'))) us' (pick wanted (fs.take (i + 1)) (rest.take (i + 1))) ∧ (∀ b o, b ≠ fo → H1 b = some o → upd (upd H' t (.tup [.str fi, y])) fo (.lst (us ++ zs')) b = some o) := by
      intro zs' hz
      have k2 : KeepT (upd H' t (.tup [.str fi, y])) (upd (upd H' t (.tup [.str fi, y])) fo (.lst (us ++ zs'))) := KeepT.lst hu2
      refine ⟨_, _, us ++ zs', rfl, upd_same, ?_, fun b o hb e => ?_⟩
      · rw [hp]
        exact dpAll_append (dp_keepAll ((KeepT.of st).trans k2) _ _ fpk hdp) (dp_keepAll k2 _ _ (flat_pick1 fdi) hz)
      · rw [upd_ne hb]
        exact st _ _ (kk b o hb e)
    refine ⟨t, [.str fi, y], rfl, .inl (.inl upd_same), rfl, _, _, rfl, _, _, rfl, rfl, ?_⟩
    refine ⟨.str fi, rfl, rfl, _, rfl, ite2 (fun e1 => ?_) (fun e1 => ?_)⟩
    · have e1 : fi = "extra" := by simpa using e1
      subst e1
      obtain ⟨xs, rfl⟩ := hfit.at' hfi hdi
      cases hyd2 with
      | tup hys hyA =>
      rename_i ya zs'
      have hz := dpAll_len hyA
      refine ⟨.ref fo, rfl, .inl ⟨rfl, _, .inl (.inl hu2)⟩, .ref ya, rfl, fo, ya, us, zs', rfl, rfl, hu2, hys, ?_, turn zs' ?_⟩
      · rw [hlu, hz]
        unfold pick1 at hl2
        rw [if_pos rfl, items] at hl2
        exact small_le (by omega)
      · unfold pick1
        rw [if_pos rfl]
        exact hyA
    · have e1 : fi ≠ "extra" := fun z => e1 (by simpa using z)
      refine ⟨.str fi, rfl, .ref wA, rfl, wA, wanted.map V.str, rfl, .inr ((KeepT.trans ⟨fun b xs e => kk _ _ (ne_of_none e nfo) (s2 _ _ e), fun b o xs e => kk _ _ (ne_of_none e nfo) (s2 _ _ e)⟩ (KeepT.of st)).seqt hW), rfl, flat_strs wanted, _, rfl, ?_⟩
      rw [wanted_in]
      refine ite2 (fun e2 => ?_) (fun e2 => ?_)
      · have e2 : fi ∈ wanted := by simpa using e2
        refine ⟨.ref fo, rfl, .inl ⟨rfl, _, .inl (.inl hu2)⟩, y, rfl, fo, _, _, rfl, rfl, hu2, ?_, turn [y] ?_⟩
        · rw [hlu]
          exact small1000 (by omega)
        · unfold pick1
          rw [if_neg e1, if_pos e2]
          exact .cons hyd2 .nil
      · have e2 : fi ∉ wanted := fun z => e2 (by simpa using z)
        refine ⟨_, _, us, rfl, hu2, ?_, fun b o hb e => st _ _ (kk b o hb e)⟩
        rw [hp]
        unfold pick1
        rw [if_neg e1, if_neg e2, List.append_nil]
        exact dp_keepAll (KeepT.of st) _ _ fpk hdp
  · rintro σ H' ⟨y3, y4, us, rfl, hu, hdp, kk⟩
    have e1 : fs.take (fs.map V.str).length = fs := by rw [List.length_map, List.take_length]
    have e2 : rest.take (fs.map V.str).length = rest := by rw [List.length_map, hfit.len, List.take_length]
    rw [e1, e2] at hdp
    refine ⟨.ref fo, rfl, q H' fo us (fun b o e => kk _ _ (ne_of_none e nfo) (s2 _ _ e)) nfo hu hdp⟩
end
end L41

namespace L41
open PySem PySem.Spec PyProof.Rows L2 GR
abbrev W2 : List Str := ["free", "bound"]
def fieldsOf (w : Str) : List Str := ((table.find? fun p => decide (p.1 = w)).map (·.2)).getD []
/-- what an expression contains directly -/
def kids : PyData → List PyData
  | .tuple (.str w :: rest) => pick W2 (fieldsOf w) rest
  | _ => []
theorem fieldsOf_table : ∀ p, p ∈ table → fieldsOf p.1 = p.2 := by decide
theorem Form.kids {x : PyData} {w : Str} {fs : List Str} {rest : List PyData} (h : Form x w fs rest) : kids x = pick W2 fs rest := by
  obtain ⟨rfl, ht, _⟩ := h
  show pick W2 (fieldsOf w) rest = _
  rw [show fieldsOf w = fs from fieldsOf_table (w, fs) ht]
theorem kids_of {w : Str} {fs : List Str} {rest : List PyData} (ht : (w, fs) ∈ table) : kids (.tuple (.str w :: rest)) = pick W2 fs rest := by
  show pick W2 (fieldsOf w) rest = _
  rw [show fieldsOf w = fs from fieldsOf_table (w, fs) ht]
theorem p_no {f : Str} {d : PyData} {fs : List Str} {ds : List PyData} (h : f ≠ "extra") (h2 : f ∉ W2) : pick W2 (f :: fs) (d :: ds) = pick W2 fs ds := by
  simp only [pick, if_neg h, if_neg h2, List.nil_append]
theorem p_yes {f : Str} {d : PyData} {fs : List Str} {ds : List PyData} (h : f ≠ "extra") (h2 : f ∈ W2) : pick W2 (f :: fs) (d :: ds) = d :: pick W2 fs ds := by
  simp only [pick, if_neg h, if_pos h2, List.cons_append, List.nil_append]
theorem p_ex {xs : List PyData} {fs : List Str} {ds : List PyData} : pick W2 ("extra" :: fs) (.tuple xs :: ds) = xs ++ pick W2 fs ds := by
  simp only [pick, if_pos, items]
theorem p_nil : pick W2 [] [] = [] := rfl
/-- the parts contained, by the form -/
theorem kids_leaf {zs : List Str} {x : PyData} (h : Leaf zs x) : kids x = [] := by
  cases h with
  | int i _ _ => rw [kids_of (fs := ["value"]) (by decide), p_no (by decide) (by decide), p_nil]
  | let_ i _ _ => rw [kids_of (fs := ["position"]) (by decide), p_no (by decide) (by decide), p_nil]
  | key => rw [kids_of (fs := []) (by decide), p_nil]
  | var z _ => rw [kids_of (fs := ["name"]) (by decide), p_no (by decide) (by decide), p_nil]
theorem kids_cell {t v : Str} {x : PyData} : kids (.tuple [.str "cell", .str t, x, .str v]) = [x] := by
  rw [kids_of (fs := ["name", "free", "name"]) (by decide), p_no (by decide) (by decide), p_yes (by decide) (by decide), p_no (by decide) (by decide), p_nil]
theorem kids_if {x y z : PyData} : kids (.tuple [.str "if", x, y, z]) = [x, y, z] := by
  rw [kids_of (fs := ["free", "free", "free"]) (by decide), p_yes (by decide) (by decide), p_yes (by decide) (by decide), p_yes (by decide) (by decide), p_nil]
theorem kids_op {o : Str} {x y : PyData} (h : o ∈ opws) : kids (.tuple [.str o, x, y]) = [x, y] := by
  simp only [opws, List.mem_cons, List.not_mem_nil, or_false] at h
  rcases h with rfl | rfl | rfl | rfl | rfl | rfl
  · rw [kids_of (fs := ["free", "free"]) (by decide), p_yes (by decide) (by decide), p_yes (by decide) (by decide), p_nil]
  · rw [kids_of (fs := ["free", "free"]) (by decide), p_yes (by decide) (by decide), p_yes (by decide) (by decide), p_nil]
  · rw [kids_of (fs := ["free", "free"]) (by decide), p_yes (by decide) (by decide), p_yes (by decide) (by decide), p_nil]
  · rw [kids_of (fs := ["free", "free"]) (by decide), p_yes (by decide) (by decide), p_yes (by decide) (by decide), p_nil]
  · rw [kids_of (fs := ["free", "free"]) (by decide), p_yes (by decide) (by decide), p_yes (by decide) (by decide), p_nil]
  · rw [kids_of (fs := ["free", "bound"]) (by decide), p_yes (by decide) (by decide), p_yes (by decide) (by decide), p_nil]
theorem kids_agg {o t : Str} {xs ys : List PyData} (h : (o, ys.length) ∈ aggs) : kids (.tuple (.str o :: .str t :: .tuple xs :: ys)) = xs ++ ys := by
  simp only [aggs, List.mem_cons, List.not_mem_nil, or_false, Prod.mk.injEq] at h
  rcases h with ⟨rfl, h⟩ | ⟨rfl, h⟩ | ⟨rfl, h⟩ | ⟨rfl, h⟩
  · match ys, h with
    | [_, _], _ => rw [kids_of (fs := ["name", "extra", "bound", "bound"]) (by decide), p_no (by decide) (by decide), p_ex, p_yes (by decide) (by decide), p_yes (by decide) (by decide), p_nil]
  · match ys, h with
    | [_, _, _], _ => rw [kids_of (fs := ["name", "extra", "bound", "bound", "bound"]) (by decide), p_no (by decide) (by decide), p_ex, p_yes (by decide) (by decide), p_yes (by decide) (by decide), p_yes (by decide) (by decide), p_nil]
  · match ys, h with
    | [_, _, _, _], _ => rw [kids_of (fs := ["name", "extra", "bound", "bound", "bound", "free"]) (by decide), p_no (by decide) (by decide), p_ex, p_yes (by decide) (by decide), p_yes (by decide) (by decide), p_yes (by decide) (by decide), p_yes (by decide) (by decide), p_nil]
  · match ys, h with
    | [_, _, _], _ => rw [kids_of (fs := ["name", "extra", "bound", "bound", "free"]) (by decide), p_no (by decide) (by decide), p_ex, p_yes (by decide) (by decide), p_yes (by decide) (by decide), p_yes (by decide) (by decide), p_nil]
theorem agg_len {o : Str} {n : Nat} (h : (o, n) ∈ aggs) : n ≤ 4 := by
  simp only [aggs, List.mem_cons, List.not_mem_nil, or_false, Prod.mk.injEq] at h
  omega
theorem Ex.kids {zs : List Str} {n : Nat} {x : PyData} (h : Ex zs (n + 1) x) : (∀ y, y ∈ kids x → Ex zs n y) ∧ (kids x).length ≤ 44 := by
  cases h with
  | leaf n x h =>
    rw [kids_leaf h]
    exact ⟨fun y hy => (nomatch hy), by decide⟩
  | cell n t v x h1 h2 h3 =>
    rw [kids_cell]
    refine ⟨fun y hy => ?_, (show 1 ≤ 44 by decide)⟩
    rw [List.mem_singleton.mp hy]
    exact h3
  | op n o x y h1 h2 h3 =>
    rw [kids_op h1]
    refine ⟨fun z hz => ?_, (show 2 ≤ 44 by decide)⟩
    simp only [List.mem_cons, List.not_mem_nil, or_false] at hz
    rcases hz with rfl | rfl
    · exact h2
    · exact h3
  | iff n x y z h1 h2 h3 =>
    rw [kids_if]
    refine ⟨fun u hu => ?_, (show 3 ≤ 44 by decide)⟩
    simp only [List.mem_cons, List.not_mem_nil, or_false] at hu
    rcases hu with rfl | rfl | rfl
    · exact h1
    · exact h2
    · exact h3
  | agg n o t xs ys h1 h2 h3 h4 h5 =>
    rw [kids_agg h1]
    have := agg_len h1
    refine ⟨fun u hu => ?_, by rw [List.length_append]; omega⟩
    rcases List.mem_append.mp hu with hu | hu
    · exact h4 u hu
    · exact h5 u hu
/-! ### levels -/
/-- the level below -/
def down (l : List PyData) : List PyData := l.flatMap kids
/-- n levels, from l on -/
def lvls : Nat → List PyData → List PyData
  | 0, _ => []
  | n + 1, l => l ++ lvls n (down l)
/-- all parts, each with its own behind it -/
def flatP : Nat → PyData → List PyData
  | 0, _ => []
  | n + 1, x => x :: (kids x).flatMap (flatP n)
def bnd : Nat → Nat
  | 0 => 0
  | n + 1 => 1 + 44 * bnd n
theorem sum_le {α : Type} (f : α → Nat) (b : Nat) : ∀ l : List α, (∀ x, x ∈ l → f x ≤ b) → (l.map f).sum ≤ l.length * b
  | [], _ => by simp
  | x :: l, h => by
    have h1 := h x List.mem_cons_self
    have h2 := sum_le f b l fun y hy => h y (List.mem_cons_of_mem _ hy)
    rw [List.map_cons, List.sum_cons, List.length_cons, Nat.succ_mul]
    omega
theorem flatP_len {zs : List Str} : ∀ {n : Nat} {x : PyData}, Ex zs n x → (flatP n x).length ≤ bnd n
  | 0, _, h => by cases h
  | n + 1, x, h => by
    obtain ⟨h1, h2⟩ := h.kids
    have h3 : ((kids x).flatMap (flatP n)).length ≤ 44 * bnd n := by
      rw [List.length_flatMap]
      have := sum_le (fun y => (flatP n y).length) (bnd n) (kids x) fun y hy => flatP_len (h1 y hy)
      have h4 : (kids x).length * bnd n ≤ 44 * bnd n := Nat.mul_le_mul_right _ h2
      omega
    simp only [flatP, List.length_cons, bnd]
    omega
theorem flatMap_cons_perm {α β : Type} (f : α → β) (g : α → List β) : ∀ l : List α, (l.map f ++ l.flatMap g).Perm (l.flatMap fun x => f x :: g x)
  | [] => .nil
  | x :: l => by
    have ih := flatMap_cons_perm f g l
    simp only [List.map_cons, List.flatMap_cons, List.cons_append]
    refine .cons _ ?_
    have : (l.map f ++ (g x ++ l.flatMap g)).Perm (g x ++ (l.map f ++ l.flatMap g)) := by
      rw [← List.append_assoc, ← List.append_assoc]
      exact List.perm_append_comm.append_right _
    exact this.trans (ih.append_left _)
/-- by levels, the same parts -/
theorem lvls_perm : ∀ (n : Nat) (l : List PyData), (lvls n l).Perm (l.flatMap (flatP n))
  | 0, l => by
    have : l.flatMap (flatP 0) = [] := by
      induction l with
      | nil => rfl
      | cons x l ih => rw [List.flatMap_cons, ih]; rfl
    rw [this]
    exact .nil
  | n + 1, l => by
    have ih := lvls_perm n (down l)
    have h1 : (down l).flatMap (flatP n) = l.flatMap fun x => (kids x).flatMap (flatP n) := by
      unfold down
      rw [List.flatMap_assoc]
    rw [h1] at ih
    have h2 := flatMap_cons_perm (fun x : PyData => x) (fun x => (kids x).flatMap (flatP n)) l
    rw [List.map_id'] at h2
    exact (ih.append_left l).trans h2
end L41

namespace L41
open PySem PySem.Spec PyProof.Rows L2 GR WX
/-- any walk over a list: what a turn does, told by body with what is to hold behind it -/
theorem walk_body {K : PySem.W.Frag} {a : Addr} {xs : List V} {body : V → Hp → (Hp → Prop) → Prop} {H0 : Hp} {Qd : Hp → Prop} (Pv : Nat → Hp → Prop) (h0 : Pv 0 H0) (hl : ∀ i H, i ≤ xs.length → Pv i H → SqL K H a xs)
    (hs : ∀ i x H, xs[i]? = some x → Pv i H → body x H (Pv (i + 1))) (hd : ∀ H, Pv xs.length H → Qd H) :
    ∃ W : Nat → Nat → Hp → Prop, (∃ m, W 0 m H0) ∧ ∀ i m H, W i m H →
      ((Itl K a).stop i H ∧ Qd H) ∨ ((Itl K a).go i H ∧ ∃ Nx : Hp → Prop, (∀ H', Nx H' → ∃ m', m' < m ∧ W (i + 1) m' H') ∧ ∀ x H', (Itl K a).yld i H x H' → body x H' Nx) := by
  have w := walk_list (K := K) (a := a) (xs := xs)
  refine ⟨fun i m H => m = xs.length - i ∧ i ≤ xs.length ∧ Pv i H, ⟨xs.length, rfl, Nat.zero_le _, h0⟩, ?_⟩
  rintro i m H ⟨rfl, hi, p⟩
  have q := hl i H hi p
  by_cases hlt : i < xs.length
  · refine .inr ⟨w.goes i H hlt q, Pv (i + 1), fun H' p' => ⟨xs.length - (i + 1), by omega, rfl, hlt, p'⟩, fun x H' y => ?_⟩
    obtain ⟨rfl, hx⟩ := w.yields i H x H' hlt q y
    exact hs i x _ hx p
  · obtain rfl : i = xs.length := by omega
    exact .inl ⟨w.stops H q, hd H p⟩
theorem Ex.kept {K : PySem.W.Frag} {H H' : Hp} {zs : List Str} {n : Nat} {x : PyData} {v : V} (s : KeepT H H') (h : Ex zs n x) (d : Dp K H v x) : Dp K H' v x := dp_keep s _ _ h.flat d
theorem flat_all {zs : List Str} {n : Nat} {xs : List PyData} (h : ∀ x, x ∈ xs → Ex zs n x) : flatDs xs = true := flatDs_of fun x hx => (h x hx).flat
theorem down_take {xs : List PyData} {i : Nat} {x : PyData} (h : xs[i]? = some x) : down (xs.take (i + 1)) = down (xs.take i) ++ kids x := by
  unfold down
  rw [List.take_add_one, h, List.flatMap_append]
  simp
theorem down_len {zs : List Str} {n : Nat} {xs : List PyData} (h : ∀ x, x ∈ xs → Ex zs (n + 1) x) : (down xs).length ≤ 44 * xs.length := by
  unfold down
  rw [List.length_flatMap]
  have := sum_le (fun y => (kids y).length) 44 xs fun y hy => ((h y hy).kids).2
  omega
theorem down_take_le (xs : List PyData) (i : Nat) : (down (xs.take i)).length ≤ (down xs).length := by
  have : down xs = down (xs.take i) ++ down (xs.drop i) := by
    unfold down
    rw [← List.flatMap_append, List.take_append_drop]
  rw [this, List.length_append]
  omega
theorem take_snoc {α : Type} {l : List α} {j : Nat} {x : α} (h : l[j]? = some x) : l.take (j + 1) = l.take j ++ [x] := by
  rw [List.take_add_one, h]
  rfl
theorem down_ex {zs : List Str} {n : Nat} {xs : List PyData} (h : ∀ x, x ∈ xs → Ex zs (n + 1) x) : ∀ y, y ∈ down xs → Ex zs n y := by
  intro y hy
  obtain ⟨x, hx, hy⟩ := List.mem_flatMap.mp hy
  exact ((h x hx).kids).1 y hy
section
variable {P : Program} {w : World} {K : PySem.W.Frag} {mg : Str → Option Value} {base : Heap}
abbrev s_contained : Stmt := topS 4
theorem sc_contained : FnScope ["expression"] ["expression"] (defScope s_contained) := ⟨rfl, rfl, rfl, by decide +kernel, rfl, by decide +kernel, by decide +kernel⟩
def sp_contained (K : PySem.W.Frag) : Sp := fun vs H Q _ => ∃ (v : V) (x : PyData) (zs : List Str) (n : Nat), vs = [v] ∧ Dp K H v x ∧ Ex zs (n + 1) x ∧ ∀ H' p us, Same H H' → H p = none → H' p = some (.lst us) → DpAll K H' us (kids x) → Q (.ref p) H'
theorem ok_contained {f fc : Addr} {fd fdc : FuncData} {k : Nat} (F : Fun K "contained" "contained" s_contained f fd) (Gc : FnOk P w K mg base CX0 k fc fdc ["expression", "wanted"] (sp_contained_of K)) (gc : mg "contained_of" = some (.ref fc)) (Kc : PySem.W.keepIn K (.ref fc) = true) (bc : Binds K fdc ["expression", "wanted"] []) {aP : Addr} (mALL : mg "ALL_PARTS" = some (.ref aP)) (TA : ∀ H, SqT K H aP (W2.map V.str)) :
    FnOk P w K mg base CX0 (k + 1) f fd ["expression"] (sp_contained K) := by
  have nd := sc_contained.nd
  refine F.ok sc_contained (fun vs H Q E h => ?_) (fun cdv A outer s H vs Q E hr h => ?_)
  · obtain ⟨v, x, zs, n, rfl, _⟩ := h
    rfl
  obtain ⟨v, x, zs, n, rfl, hd, he, q⟩ := h
  refine ⟨_, (pss_one (ps_ret (pe_call Gc hr (by rfl) gc Kc bc .nil pass0 (pa_cons (pv 0) (pa_cons (pe_glob rfl mALL (v := .ref aP) rfl) pa_nil))))), ?_⟩
  obtain ⟨wd, fs, rest, hf⟩ := he.form
  have hk := hf.kids
  have hkl := he.kids.2
  have hfl := he.flat
  obtain ⟨rfl, ht, hfit⟩ := hf
  cases hd with
  | tup hS hA =>
  rename_i a vs
  refine ⟨.ref a, rfl, a, aP, wd, fs, W2, rest, rfl, .tup hS hA, ht, hfit, ?_, ?_, TA H, fun H' p us s1 np hp hu => ?_⟩
  · rw [flatD, flatDs, Bool.and_eq_true] at hfl
    exact hfl.2
  · rw [← hk]
    omega
  · rw [← hk] at hu
    exact q H' p us s1 np hp hu
abbrev s_one_deeper : Stmt := topS 8
abbrev N_one : List Str := ["expressions", "expression", "part"]
theorem sc_one_deeper : FnScope N_one ["expressions"] (defScope s_one_deeper) := ⟨rfl, rfl, rfl, by decide +kernel, rfl, by decide +kernel, by decide +kernel⟩
def sp_one_deeper (K : PySem.W.Frag) : Sp := fun vs H Q _ => ∃ (a : Addr) (us : List V) (xs : List PyData) (zs : List Str) (n : Nat), vs = [.ref a] ∧ SqL K H a us ∧ DpAll K H us xs ∧ (∀ x, x ∈ xs → Ex zs (n + 1) x) ∧ xs.length ≤ 200000 ∧
  ∀ H' p us', Same H H' → H p = none → H' p = some (.lst us') → DpAll K H' us' (down xs) → Q (.ref p) H'
theorem ok_one_deeper {f fc : Addr} {fd fdc : FuncData} {k : Nat} (F : Fun K "one_deeper" "one_deeper" s_one_deeper f fd) (Gc : FnOk P w K mg base CX0 k fc fdc ["expression"] (sp_contained K)) (gc : mg "contained" = some (.ref fc)) (Kc : PySem.W.keepIn K (.ref fc) = true) (bc : Binds K fdc ["expression"] []) :
    FnOk P w K mg base CX0 (k + 1) f fd ["expressions"] (sp_one_deeper K) := by
  have nd := sc_one_deeper.nd
  refine F.ok sc_one_deeper (fun vs H Q E h => ?_) (fun cdv A outer s H vs Q E hr h => ?_)
  · obtain ⟨a, us, xs, zs, n, rfl, _⟩ := h
    rfl
  obtain ⟨a, us, xs, zs, n, rfl, hS, hA, hE, hlen, q⟩ := h
  refine ⟨_, (pss_one (ps_ret (pe_lc2 (own := [("expression", 1), ("part", 2)]) (vs1 := [2]) (wi1 := iList K (tCall (sp_contained K) [] E0 (tCons (tVar 1) tNil))) rfl nd (pi_list (pv 0)) (blkOk_by (N := N_one) (sc := defScope s_one_deeper) (by decide +kernel)) (by decide)
      (fun _ _ _ _ _ => (pg_name (i := 1) nd rfl (Or.inl rfl))) (fun _ _ _ _ _ => pts_nil)
      (fun _ _ _ _ _ => pi_list (pe_call Gc hr (by rfl) gc Kc bc .nil pass0 (pa_cons (pv 1) pa_nil))) (fun _ _ _ _ _ => (pg_name (i := 2) nd rfl (Or.inl rfl))) (fun _ _ _ _ _ => pts_nil)
      (fun _ _ _ _ _ => (pv 2))))), ?_⟩
  refine ⟨.ref a, rfl, a, rfl, ⟨us, hS⟩, fun D nD => ?_⟩
  have hxl := dpAll_len hA
  have hdl := down_len hE
  have full : ∀ H' us', DpAll K H' us' (down xs) → us'.length < sizeLine := fun H' us' h => by
    rw [dpAll_len h, sizeLine_eq]
    omega
  refine walk_body (xs := us) (fun i H' => ∃ acc, H' D = some (.lst acc) ∧ DpAll K H' acc (down (xs.take i)) ∧ Same H H') ?_ ?_ ?_ ?_
  · refine ⟨[], upd_same, ?_, same_upd nD⟩
    rw [List.take_zero]
    exact .nil
  · rintro i H' _ ⟨acc, hD, hdp, kk⟩
    exact kk.seq hS
  · rintro i v H' hv ⟨acc, hD, hdp, kk⟩
    obtain ⟨x, hx, hvx⟩ := dpAll_at hA hv
    have ex := hE x (List.mem_of_getElem? hx)
    refine ⟨rfl, yes_then ⟨v, rfl, v, x, zs, n, rfl, ex.kept (KeepT.of kk) hvx, ex, fun H2 p us2 s2 np hp hu => ⟨p, rfl, ⟨us2, .inl (.inl hp)⟩, ?_⟩⟩⟩
    have hD2 := s2 _ _ hD
    have npD : D ≠ p := ne_of_none hD np
    have hul := dpAll_len hu
    have fd : flatDs (down (xs.take i)) = true := flat_all (n := n) (zs := zs) (down_ex fun y hy => hE y (List.mem_of_mem_take hy))
    have fk : flatDs (kids x) = true := flat_all ex.kids.1
    have hdn := down_take hx
    have hle := down_take_le xs (i + 1)
    rw [hdn, List.length_append] at hle
    refine walk_body (xs := us2) (fun j H3 => ∃ acc', H3 D = some (.lst acc') ∧ DpAll K H3 acc' (down (xs.take i) ++ (kids x).take j) ∧ (∀ b o, b ≠ D → H2 b = some o → H3 b = some o)) ?_ ?_ ?_ ?_
    · refine ⟨acc, hD2, ?_, fun b o _ e => e⟩
      rw [List.take_zero, List.append_nil]
      exact dp_keepAll (KeepT.of s2) _ _ fd hdp
    · rintro j H3 _ ⟨acc', hD3, hdp3, k3⟩
      exact .inl (.inl (k3 _ _ npD.symm hp))
    · rintro j y H3 hy ⟨acc', hD3, hdp3, k3⟩
      obtain ⟨dj, hdj, hyd⟩ := dpAll_at hu hy
      have kt3 : KeepT H2 H3 := ⟨fun b us e => k3 _ _ (ne_of e hD2 (fun z => by cases z)) e, fun b o us e => k3 _ _ (ne_of e hD2 (fun z => by cases z)) e⟩
      have fdj := flatDs_at fk hdj
      have k4 : KeepT H3 (upd H3 D (.lst (acc' ++ [y]))) := KeepT.lst hD3
      have la := dpAll_len hdp3
      rw [List.length_append, List.length_take] at la
      have hj : j < (kids x).length := (List.getElem?_eq_some_iff.mp hdj).1
      refine ⟨rfl, yes_then ⟨y, rfl, acc', hD3, ?_, acc' ++ [y], upd_same, ?_, fun b o hb e => ?_⟩⟩
      · rw [sizeLine_eq]
        omega
      · rw [take_snoc hdj, ← List.append_assoc]
        exact dpAll_append (dp_keepAll k4 _ _ (flatDs_append fd (flatDs_take j fk)) hdp3) (.cons (dp_keep (kt3.trans k4) _ _ fdj hyd) .nil)
      · rw [upd_ne hb]
        exact k3 b o hb e
    · rintro H3 ⟨acc', hD3, hdp3, k3⟩
      rw [hul, List.take_length, ← hdn] at hdp3
      exact ⟨acc', hD3, hdp3, fun b o e => k3 b o (ne_of_none e nD) (s2 _ _ (kk _ _ e))⟩
  · rintro H' ⟨acc, hD, hdp, kk⟩
    rw [hxl, List.take_length] at hdp
    exact q H' D acc kk nD hD hdp
end
end L41

namespace L41
open PySem PySem.Spec PyProof.Rows L2 GR WX
theorem lvls_nil : ∀ n, lvls n [] = []
  | 0 => rfl
  | n + 1 => by
    show [] ++ lvls n (down []) = []
    rw [List.nil_append, show down [] = [] from rfl, lvls_nil n]
theorem lvls_len {zs : List Str} {n : Nat} {x : PyData} (h : Ex zs n x) : (lvls n [x]).length ≤ (flatP n x).length := by
  have := (lvls_perm n [x]).length_eq
  rw [List.flatMap_cons, List.flatMap_nil, List.append_nil] at this
  exact Nat.le_of_eq this
/-- how many levels there are, from l on -/
def deepN : Nat → List PyData → Nat
  | 0, _ => 0
  | n + 1, l => if l.isEmpty then 0 else 1 + deepN n (down l)
theorem deepN_nil : ∀ n, deepN n [] = 0
  | 0 => rfl
  | n + 1 => rfl
section
variable {P : Program} {w : World} {K : PySem.W.Frag} {mg : Str → Option Value} {base : Heap}
abbrev s_all_parts : Stmt := topS 9
theorem sc_all_parts : FnScope ["expression", "found", "level"] ["expression"] (defScope s_all_parts) := ⟨rfl, rfl, rfl, by decide +kernel, rfl, by decide +kernel, by decide +kernel⟩
def sp_all_parts (K : PySem.W.Frag) : Sp := fun vs H Q _ => ∃ (v : V) (x : PyData) (zs : List Str) (n : Nat), vs = [v] ∧ Dp K H v x ∧ Ex zs n x ∧ (flatP n x).length ≤ 200000 ∧ ∀ H' p us, Same H H' → H p = none → H' p = some (.lst us) → DpAll K H' us (lvls n [x]) → Q (.ref p) H'
theorem ok_all_parts {f fc : Addr} {fd fdc : FuncData} {k : Nat} (F : Fun K "all_parts" "all_parts" s_all_parts f fd) (Gc : FnOk P w K mg base CX0 k fc fdc ["expressions"] (sp_one_deeper K)) (gc : mg "one_deeper" = some (.ref fc)) (Kc : PySem.W.keepIn K (.ref fc) = true) (bc : Binds K fdc ["expressions"] []) :
    FnOk P w K mg base CX0 (k + 1) f fd ["expression"] (sp_all_parts K) := by
  have nd := sc_all_parts.nd
  refine F.ok sc_all_parts (fun vs H Q E h => ?_) (fun cdv A outer s H vs Q E hr h => ?_)
  · obtain ⟨v, x, zs, n, rfl, _⟩ := h
    rfl
  obtain ⟨v, x, zs, n, rfl, hd, he, hb, q⟩ := h
  have hll := lvls_len he
  refine ⟨_, (pss_cons (ps_set (i := 1) nd rfl (.inl rfl) (pe_lst pa_nil))
      (pss_cons (ps_set (i := 2) nd rfl (.inl rfl) (pe_lst (pa_cons (pv 0) pa_nil)))
      (pss_cons (ps_while PassesOwn.never (pt_truth (pv 2) (fun _ => rfl))
      (pss_cons (ps_expr (pe_bm PySem.F.plainAttrs_list PySem.F.slot_list_extend PySem.F.type_list_extend mt_extend (pv 1) (pa_cons (pv 2) pa_nil)))
        (pss_one (ps_set (i := 2) nd rfl (.inl rfl) (pe_call Gc hr (by rfl) gc Kc bc .nil pass0 (pa_cons (pv 2) pa_nil))))))
      (pss_one (ps_ret (pv 1)))))), ?_⟩
  refine ⟨Nat.zero_le _, fun fo nfo => ?_⟩
  have sf := same_upd (o := .lst []) nfo
  have hf0 : upd H fo (.lst []) fo = some (.lst []) := upd_same
  refine ⟨v, rfl, small_le (show 1 ≤ 1000 by decide), fun lv nlv => ?_⟩
  have sl := same_upd (o := .lst [v]) nlv
  have hfl := ne_of_none hf0 nlv
  refine ⟨fun m σ H' => ∃ (lv : Addr) (acc us : List V) (done xs : List PyData), σ = [some v, some (.ref fo), some (.ref lv)] ∧ H' fo = some (.lst acc) ∧ H' lv = some (.lst us) ∧ fo ≠ lv ∧ DpAll K H' acc done ∧ DpAll K H' us xs ∧ (∀ y, y ∈ xs → Ex zs m y) ∧ (∀ y, y ∈ done → flatD y = true) ∧ done ++ lvls m xs = lvls n [x] ∧ (∀ b o, b ≠ fo → H b = some o → H' b = some o), ⟨n, ?_⟩, ?_⟩
  · refine ⟨lv, [], [v], [], [x], rfl, sl _ _ hf0, upd_same, hfl, .nil, .cons (he.kept (KeepT.of (sf.trans sl)) hd) .nil, ?_, fun y hy => (nomatch hy), rfl, fun b o _ e => sl _ _ (sf _ _ e)⟩
    intro y hy
    rw [List.mem_singleton.mp hy]
    exact he
  · rintro m σ H' ⟨lv, acc, us, done, xs, rfl, hfo, hlv, hne, hA, hX, hE, hF, hL, kk⟩
    have lA := dpAll_len hA
    have lX := dpAll_len hX
    refine ⟨.ref lv, rfl, !us.isEmpty, .inl ⟨us, .inl (.inl hlv), rfl⟩, ?_⟩
    cases us with
    | nil =>
      have hx : xs = [] := by
        cases hX
        rfl
      subst hx
      refine iteF ⟨.ref fo, rfl, q H' fo acc (fun b o e => kk b o (ne_of_none e nfo) e) nfo hfo ?_⟩
      rw [lvls_nil, List.append_nil] at hL
      rw [← hL]
      exact hA
    | cons u0 ur =>
      have hx : xs ≠ [] := by
        intro z
        rw [z] at lX
        cases lX
      obtain ⟨x0, hx0⟩ := List.exists_mem_of_ne_nil xs hx
      obtain ⟨m', rfl⟩ : ∃ m', m = m' + 1 := by
        cases m with
        | zero => cases hE x0 hx0
        | succ m' => exact ⟨m', rfl⟩
      have hl2 : done.length + xs.length ≤ 200000 := by
        have := congrArg List.length hL
        rw [List.length_append, lvls, List.length_append] at this
        omega
      have hu := upd_same (H := H') (a := fo) (o := .lst (acc ++ u0 :: ur))
      refine iteT ⟨fun σ' H'' => ∃ (lv : Addr) (acc us : List V) (done xs : List PyData), σ' = [some v, some (.ref fo), some (.ref lv)] ∧ H'' fo = some (.lst acc) ∧ H'' lv = some (.lst us) ∧ fo ≠ lv ∧ DpAll K H'' acc done ∧ DpAll K H'' us xs ∧ (∀ y, y ∈ xs → Ex zs m' y) ∧ (∀ y, y ∈ done → flatD y = true) ∧ done ++ lvls m' xs = lvls n [x] ∧ (∀ b o, b ≠ fo → H b = some o → H'' b = some o),
        fun σ' H'' z => ⟨m', Nat.lt_succ_self m', z⟩, ?_⟩
      refine ⟨.ref fo, rfl, .inl ⟨rfl, _, .inl (.inl hfo)⟩, .ref lv, rfl, fo, lv, acc, u0 :: ur, rfl, rfl, hfo, hlv, ?_, ?_⟩
      · rw [lA, lX, sizeLine_eq]
        omega
      have k1 : KeepT H' (upd H' fo (.lst (acc ++ u0 :: ur))) := KeepT.lst hfo
      have hlv1 : upd H' fo (.lst (acc ++ u0 :: ur)) lv = some (.lst (u0 :: ur)) := by
        rw [upd_ne hne.symm]
        exact hlv
      have fX := flat_all hE
      have hA1 := dpAll_append (dp_keepAll k1 _ _ (flatDs_of hF) hA) (dp_keepAll k1 _ _ fX hX)
      have hX1 := dp_keepAll k1 _ _ fX hX
      refine ⟨.ref lv, rfl, lv, u0 :: ur, xs, zs, m', rfl, .inl (.inl hlv1), hX1, hE, by omega, fun H2 p us' s2 np hp hu' => ?_⟩
      have hfo2 := s2 _ _ hu
      refine ⟨p, acc ++ u0 :: ur, us', done ++ xs, down xs, rfl, hfo2, hp, ne_of_none hu np, ?_, hu', down_ex hE, ?_, ?_, fun b o hb e => ?_⟩
      · refine dp_keepAll (KeepT.of s2) _ _ (flatDs_append (flatDs_of hF) fX) hA1
      · intro y hy
        rcases List.mem_append.mp hy with hy | hy
        · exact hF y hy
        · exact (hE y hy).flat
      · rw [List.append_assoc]
        exact hL
      · refine s2 _ _ ?_
        rw [upd_ne hb]
        exact kk b o hb e
end
end L41

/-! Sets of texts that can be walked: what one more element does to the object, for any kind of key. -/
namespace TX
open PySem PySem.Spec PyProof.Rows L2
section
variable {P : Program} {w : World} {A : Around} {E : Value → Shared → Prop} {s : Shared} {a : Addr}
/-- the object at a is the same set with these entries, and its table is as good as before -/
structure Grown (h0 h : Heap) (a : Addr) (o : Obj) (t : SetTable) (l : List (Int × Value)) : Prop where
  same : Heap.SameBut a h0 h
  at' : ∃ es ep t', h.get? a = some { o with data := .set es ep t' } ∧ es.toList.Perm l ∧ t'.fits es.size = true ∧ (Ris t.place.toList → Ris t'.place.toList) ∧ t'.led = t.led
theorem got {h : Heap} {o : Obj} {es es' : Array (Int × Value)} {ep : Nat} {t t' : SetTable} (ho : h.get? a = some o) (hd : o.data = .set es ep t) :
    (h.update a (Obj.putSet es' t')).get? a = some { o with data := .set es' (ep + 1) t' } := store_at ho hd
/-- laid down, and laid anew where the table is too full -/
theorem tail {g : Bool → Sem Unit} (hg : ∀ (b : Bool) (s₁ : Shared) (Q' : Unit → Shared → Prop), Q' () s₁ → wpAny (model P w) A (g b) Q' E s₁) {o : Obj} {es es1 : Array (Int × Value)} {ep : Nat} {t t0 t2 : SetTable} (ho : s.heap.get? a = some o) (hd : o.data = .set es ep t)
    {l : List (Int × Value)} (pm : es1.toList.Perm l) (small : es1.size < scanBound) (fit : t2.fits es1.size = true) (ris : Ris t0.place.toList → Ris t2.place.toList) (led : t2.led = t0.led) {d : Bool} {R : Option Bool → Shared → Prop}
    (done : ∀ h', Grown s.heap h' a o t0 l → R (some true) { s with heap := h' }) :
    wpAny (model P w) A (do
        storeSet a es1 t2
        if (!d && t2.tooFull) = true then do
            g (relayAll t2 es1 (SetTable.grown es1.size)).2.2
            storeSet a (relayAll t2 es1 (SetTable.grown es1.size)).1 (relayAll t2 es1 (SetTable.grown es1.size)).2.1
            pure (some true)
          else pure (some true)) R E s := by
  have h1 := got (es' := es1) (t' := t2) ho hd
  have b1 := Heap.SameBut.update s.heap a (Obj.putSet es1 t2)
  apply wpAny_bind
  refine wpAny_storeSet_of ho hd ?_ (fits_of_scanBound small)
  by_cases full : (!d && t2.tooFull) = true
  · rw [if_pos full]
    have p2 := relayAll_perm t2 es1 (SetTable.grown es1.size)
    have small2 : (relayAll t2 es1 (SetTable.grown es1.size)).1.size < scanBound := by
      have := p2.length_eq
      rw [Array.length_toList, Array.length_toList] at this
      omega
    apply wpAny_bind
    refine hg _ _ _ ?_
    apply wpAny_bind
    refine wpAny_storeSet_of h1 rfl ?_ (fits_of_scanBound small2)
    exact wpAny_pure (done _ ⟨b1.trans (Heap.SameBut.update _ a _), _, _, _, (got (o := { o with data := .set es1 (ep + 1) t2 }) h1 rfl : _), p2.trans pm, relayAll_fits t2 es1 _, fun _ => relayAll_ris t2 es1 _, (relayAll_led t2 es1 _).trans led⟩)
  · rw [if_neg full]
    exact wpAny_pure (done _ ⟨b1, es1, _, t2, h1, pm, fit, ris, led⟩)

/-- one more element, or none where it is in -/
theorem add {K : Type} [DecidableEq K] {knd : PySem.KeyKind P w K} {o : Obj} {es : Array (Int × Value)} {ep : Nat} {t : SetTable} {k : K} {v : Value} {Q : Bool → Shared → Prop} (ho : s.heap.get? a = some o) (hd : o.data = .set es ep t) (hel : ElemsOf knd es.toList)
    (small : es.size + 1 < scanBound) (hf : t.fits es.size = true) (hk : knd.is k v = true) (hsc : v.scannable = true) (old : (∃ e ∈ es.toList, knd.is k e.2 = true) → Q false s)
    (new : (∀ e ∈ es.toList, knd.is k e.2 = false) → ∀ h', Grown s.heap h' a o t ((knd.hash k, v) :: es.toList) → Q true { s with heap := h' }) : wpAny (model P w) A (setAddHashed a v (knd.hash k)) Q E s := by
  unfold setAddHashed setAddHashedIn
  apply wpAny_holding
  apply wpAny_bind
  refine wpAny_setState_of ho hd hf ?_
  dsimp only
  rw [byScan_of hsc (by omega) hel]
  simp only [↓reduceIte]
  unfold setAddByScan
  apply wpAny_bind
  apply wpAny_bind
  apply wpAny_rule
  apply wpAny_bind
  refine wpAny_setScan_of hk ho hd hf hel ?_
  cases hfi : List.findIdx? (fun e => knd.is k e.2) es.toList with
  | some j =>
    dsimp only
    obtain ⟨hj, pj, _⟩ := List.findIdx?_eq_some_iff_getElem.mp hfi
    exact wpAny_pure (wpAny_pure (old ⟨_, List.getElem_mem hj, pj⟩))
  | none =>
    dsimp only
    have out : ∀ e ∈ es.toList, knd.is k e.2 = false := fun e he => by
      have := List.findIdx?_eq_none_iff.mp hfi e he
      simpa using this
    have pm : (layNew t es (knd.hash k) v).1.toList.Perm ((knd.hash k, v) :: es.toList) := by
      have := layNew_perm t es (knd.hash k) v
      rw [Array.toList_push] at this
      exact this.trans (List.perm_append_singleton _ _)
    have small1 : (layNew t es (knd.hash k) v).1.size < scanBound := by
      have := pm.length_eq
      rw [Array.length_toList, List.length_cons, Array.length_toList] at this
      omega
    have fit := layNew_fits t es (knd.hash k) v
    have ris := layNew_ris t es (knd.hash k) v
    have led := layNew_led t es (knd.hash k) v
    have wg : ∀ (b : Bool) {s₁ : Shared} {Q' : Unit → Shared → Prop}, Q' () s₁ → wpAny (model P w) A (match b with | true => rule "set.scan.the-table-gave-way" | false => pure ()) Q' E s₁ := fun b s₁ Q' q => by
      cases b
      · exact wpAny_pure q
      · exact wpAny_rule q
    generalize layNew t es (knd.hash k) v = Z at pm small1 fit ris led ⊢
    obtain ⟨es1, t1, dummy, gave⟩ := Z
    dsimp only at pm small1 fit ris led ⊢
    apply wpAny_bind
    refine wg _ ?_
    have gave' : ∀ (b : Bool) (s₁ : Shared) (Q' : Unit → Shared → Prop), Q' () s₁ → wpAny (model P w) A (match b with | true => rule "set.scan.the-table-gave-way" | false => pure ()) Q' E s₁ := fun b s₁ Q' q => wg b q
    by_cases pl : t1.plain = true
    · rw [if_pos pl]
      apply wpAny_bind
      rw [hashByValue_scannable 8 hsc]
      apply wpAny_pure
      cases plainKind v with
      | true =>
        simp only [if_true]
        refine tail gave' ho hd pm small1 fit ris led ?_
        intro h' G
        exact wpAny_pure (new out h' G)
      | false =>
        simp only [Bool.false_eq_true, if_false]
        refine tail gave' ho hd pm small1 (SetTable.fits_plain_off fit) ris led ?_
        intro h' G
        exact wpAny_pure (new out h' G)
    · rw [if_neg pl]
      apply wpAny_bind
      apply wpAny_pure
      simp only [↓reduceIte]
      refine tail gave' ho hd pm small1 fit ris led ?_
      intro h' G
      exact wpAny_pure (new out h' G)
end
end TX

/-! Sets of texts: new, one more, sorted. -/
namespace TX
open PySem PySem.Spec PyProof.Rows L2
/-- these entries are the texts l -/
structure Els (w : World) (es : List (Int × Value)) (l : List Str) : Prop where
  each : ∀ e ∈ es, ∃ x u, e.2 = Value.str x u ∧ e.1 = hashStr w x
  perm : (es.map fun e => PyProof.Rows.strOf e.2).Perm l
/-- the set of the texts l at a; it can be walked -/
def SetS (w : World) (h : Heap) (a : Addr) (l : List Str) : Prop :=
  ∃ o es ep t, h.get? a = some o ∧ o.ExactSet ∧ o.data = .set es ep t ∧ Els w es.toList l ∧ l.Nodup ∧ es.size < scanBound ∧ t.fits es.size = true ∧ Ris t.place.toList ∧ (w.params.followText "set-order" = true ∨ t.led = true)
theorem SetS.keep {w : World} {h h' : Heap} {a : Addr} {l : List Str} (R : SetS w h a l) (k : ∀ o, h.get? a = some o → h'.get? a = some o) : SetS w h' a l := by
  obtain ⟨o, es, ep, t, ho, r⟩ := R
  exact ⟨o, es, ep, t, k o ho, r⟩
theorem isStr {P : Program} {w : World} (x : Str) (u : Tok) : (PySem.strKind P w).is x (.str x u) = true := by
  show Value.isStrOf x (.str x u) = true
  simp [Value.isStrOf]
theorem Els.kind {P : Program} {w : World} {es : List (Int × Value)} {l : List Str} (G : Els w es l) : ElemsOf (PySem.strKind P w) es := by
  intro e he
  obtain ⟨x, u, e2, e1⟩ := G.each e he
  exact ⟨⟨x, by rw [e2]; exact isStr x u, e1⟩, by rw [e2]; rfl⟩
theorem Els.mem {P : Program} {w : World} {es : List (Int × Value)} {l : List Str} (G : Els w es l) (x : Str) : (∃ e ∈ es, (PySem.strKind P w).is x e.2 = true) ↔ x ∈ l := by
  rw [← G.perm.mem_iff, List.mem_map]
  constructor
  · rintro ⟨e, he, q⟩
    obtain ⟨y, u, e2, _⟩ := G.each e he
    refine ⟨e, he, ?_⟩
    rw [e2] at q ⊢
    exact (PySem.strKind P w).inj (.str y u) y x (isStr y u) q
  · rintro ⟨e, he, q⟩
    obtain ⟨y, u, e2, _⟩ := G.each e he
    refine ⟨e, he, ?_⟩
    rw [e2] at q ⊢
    rw [← q]
    exact isStr y u
theorem Els.more {P : Program} {w : World} {es es' : List (Int × Value)} {l : List Str} {x : Str} {u : Tok} (G : Els w es l) (p : es'.Perm (((PySem.strKind P w).hash x, Value.str x u) :: es)) : Els w es' (x :: l) := by
  constructor
  · intro e he
    rcases List.mem_cons.mp (p.mem_iff.mp he) with rfl | he
    · exact ⟨x, u, rfl, rfl⟩
    · exact G.each e he
  · exact (p.map _).trans (G.perm.cons x)
/-- x put in -/
def put (x : Str) (l : List Str) : List Str := if x ∈ l then l else x :: l
theorem mem_put {x y : Str} {l : List Str} : y ∈ put x l ↔ y = x ∨ y ∈ l := by
  unfold put
  by_cases h : x ∈ l
  · rw [if_pos h]
    exact ⟨.inr, fun z => z.elim (fun e => e ▸ h) id⟩
  · rw [if_neg h, List.mem_cons]
theorem put_nodup {x : Str} {l : List Str} (h : l.Nodup) : (put x l).Nodup := by
  unfold put
  by_cases q : x ∈ l
  · rw [if_pos q]
    exact h
  · rw [if_neg q]
    exact List.nodup_cons.mpr ⟨q, h⟩
theorem put_length {x : Str} {l : List Str} : (put x l).length ≤ l.length + 1 := by
  unfold put
  by_cases q : x ∈ l
  · rw [if_pos q]
    omega
  · rw [if_neg q, List.length_cons]
    exact Nat.le_refl _
section
variable {P : Program} {w : World} {A : Around} {E : Value → Shared → Prop} {s : Shared} {a : Addr} {l : List Str}
theorem SetS.typeIs (R : SetS w s.heap a l) : s.TypeIs (.ref a) "set" := by
  obtain ⟨o, es, ep, t, ho, hx, _⟩ := R
  exact ⟨o, ho, hx.1⟩
theorem call_add {x : Str} {u : Tok} {Q : Value → Shared → Prop} (R : SetS w s.heap a l) (small : l.length + 1 < scanBound) (hQ : ∀ h', Heap.SameBut a s.heap h' → SetS w h' a (put x l) → Q .none { s with heap := h', toks := s.toks + 1 }) :
    wpAny (model P w) A (call (.builtin "set.add") [.ref a, .str x u]) Q E s := by
  refine wpAny_call_entry F.slot_set_add R.typeIs F.entry_set_add ?_ (F.args_set_add_2 _ _)
  obtain ⟨o, es, ep, t, ho, hx, hd, G, nd, hb, hf, hr, hl⟩ := R
  unfold Builtin.«set.add» Builtin.Frozenset.oneOther
  simp only [List.isEmpty_nil, bind_assoc]
  unfold Builtin.Frozenset.addrOf setAdd
  apply wpAny_bind
  apply wpAny_pure
  try dsimp only
  apply wpAny_bind
  apply wpAny_pure
  try dsimp only
  apply wpAny_bind
  apply wpAny_holding
  apply wpAny_bind
  refine (PySem.strKind P w).pyHash (isStr x u) ?_
  have sz : es.size = l.length := by
    have := G.perm.length_eq
    rw [List.length_map, Array.length_toList] at this
    exact this
  refine add (s := { s with toks := s.toks + 1 }) (knd := PySem.strKind P w) (k := x) (v := .str x u) ho hd G.kind (by omega) hf (isStr x u) rfl ?_ ?_
  · intro hin
    show wpAny _ _ (ret Value.none) _ _ _
    refine wpAny_pure ⟨_, rfl, hQ s.heap (Heap.SameBut.refl a s.heap) ?_⟩
    unfold put
    rw [if_pos ((G.mem x).1 hin)]
    exact ⟨o, es, ep, t, ho, hx, hd, G, nd, hb, hf, hr, hl⟩
  · intro out h' N
    show wpAny _ _ (ret Value.none) _ _ _
    refine wpAny_pure ⟨_, rfl, hQ h' N.same ?_⟩
    have hn : x ∉ l := fun z => by
      obtain ⟨e, he, q⟩ := (G.mem (P := P) x).2 z
      rw [out e he] at q
      cases q
    unfold put
    rw [if_neg hn]
    obtain ⟨es1, ep1, t1, h1, p1, f1, r1, l1⟩ := N.at'
    have sz1 : es1.size = es.size + 1 := by
      have := p1.length_eq
      rw [Array.length_toList, List.length_cons, Array.length_toList] at this
      exact this
    exact ⟨_, es1, ep1, t1, h1, hx, rfl, G.more (P := P) p1, List.nodup_cons.mpr ⟨hn, nd⟩, by omega, f1, r1 hr, hl.imp id fun z => l1.trans z⟩
theorem fresh {h : Heap} (w : World) : SetS w (h.push { cls := .type "set", dict := none, data := .set #[] 0 (.fresh 0 0 (!w.params.followText "set-order")) }) h.objs.size [] := by
  refine ⟨_, #[], 0, _, Heap.get?_push_size _ rfl, ⟨rfl, rfl, rfl⟩, rfl, ⟨fun e he => by simp at he, .nil⟩, .nil, by decide, by rfl, .nil, ?_⟩
  show _ ∨ (!w.params.followText "set-order") = true
  cases w.params.followText "set-order"
  · exact .inr rfl
  · exact .inl rfl
/-- sorted(it) -/
theorem call_sorted {Q : Value → Shared → Prop} (R : SetS w s.heap a l) (hh : A.handled = none) (h64 : l.length < 64)
    (hQ : ∀ s' p (out : Array Value) (c : Nat) (ys : List Str), (∀ b o, s.heap.get? b = some o → s'.heap.get? b = some o) → s'.gens = s.gens → s'.os = s.os → s.heap.objs.size ≤ p → s'.heap.get? p = some (seqObj "list" out c) → StrsAre out.toList ys → ys.Perm l → sortedS ys = true → Q (.ref p) s') :
    wpAny (model P w) A (call (.builtin "sorted") [.ref a]) Q E s := by
  obtain ⟨o, es, ep, t, ho, hx, hd, G, nd, hb, hf, hr, hl⟩ := R
  refine Calls.call_function_entry kind_sorted plain_sorted entry_sorted (args_sorted1 _) ?_
  unfold Builtin.«sorted»
  apply wpAny_bind (m := checkCount "sorted" 1 1 _)
  apply wpAny_pure
  apply wpAny_bind
  refine collect_set (A := A.in1) hh ⟨o, ho, hx.1, hd⟩ hf hb hr hl fun s1 vs k1 hz g1 o1 pm => ?_
  have hS : StrsAre vs (vs.map PyProof.Rows.strOf) := strsAre_map vs fun v hv => by
    obtain ⟨e, he, rfl⟩ := List.mem_map.mp (pm.mem_iff.mp hv)
    obtain ⟨x, u, e2, _⟩ := G.each e he
    exact ⟨x, u, e2⟩
  have pl : (vs.map PyProof.Rows.strOf).Perm l := by
    have q := pm.map PyProof.Rows.strOf
    rw [List.map_map] at q
    exact q.trans G.perm
  have hv : vs.length = l.length := by
    have := pl.length_eq
    rw [List.length_map] at this
    exact this
  apply wpAny_bind
  refine wpAny_newList ?_ (by rw [hv, sizeLine_eq]; omega)
  have hL : (s1.heap.push (seqObj "list" vs.toArray 0)).get? s1.heap.objs.size = some (seqObj "list" vs.toArray 0) := Heap.get?_push_size _ rfl
  apply wpAny_bind
  apply wpAny_holding
  refine wpAny_call_entry slot_list_sort ⟨_, hL, rfl⟩ entry_list_sort (list_sort_treeK strKind_oneLt hL hS.keysOf (fun v₁ v₂ rest e => keyKind_strs (by rw [← e]; exact hS)) (by rw [hv]; exact h64) fun st' hp hs => ⟨_, rfl, ?_⟩) (args_list_sort _)
  obtain ⟨ys, y1, y2, y3⟩ := sorted_out_str hS hp hs
  obtain ⟨c, hc⟩ := sortedHeap_at (vs := vs) (out := (arrOf st').map (·.2)) hL
  refine wpAny_pure ⟨_, rfl, hQ _ s1.heap.objs.size _ c ys (fun b u e => ?_) g1 o1 hz hc y1 (y2.trans pl) y3⟩
  have q := k1 b u e
  have lt := Heap.lt_size q
  show (sortedHeap (s1.heap.push (seqObj "list" vs.toArray 0)) s1.heap.objs.size vs _).get? b = some u
  rw [sortedHeap_old (Nat.ne_of_lt lt) (by rw [size_push']; exact Nat.lt_succ_of_lt lt)]
  exact Heap.get?_push_of_some _ q
end
end TX

/-! Sets of texts as things of the hand layer: a comprehension, sorted. -/
namespace TX
open PySem PySem.Spec PyProof.Rows L2
/-- the set of the texts l at a -/
def SetSO (w : World) (a : Addr) (l : List Str) : HO := .ext fun h => SetS w h a l
theorem so_new {w : World} {P : Program} {H : Hp} {h : Heap} {a : Addr} {l : List Str} (R : SetS w h a l) : ObjOk P w H h a (SetSO w a l) := by
  have ⟨o, _, _, _, ho, _⟩ := R
  exact ⟨R, ⟨o, ho⟩, fun h1 h2 p k => SetS.keep p k⟩
section
variable {X : Cx} {pins : List (Addr × Obj)} {σ : L2.St} {H : Hp} {s : Shared} {a : Addr} {l : List Str}
theorem so_get (I : Inv X pins σ H s) (ha : H a = some (SetSO X.w a l)) : SetS X.w s.heap a l := (I.hok a _ ha).1
theorem so_add {E : Value → Shared → Prop} {x : Str} {u : Tok} {Q : Value → Shared → Prop} (I : Inv X pins σ H s) (ha : H a = some (SetSO X.w a l)) (small : l.length + 1 < scanBound)
    (h : ∀ s', Inv X pins σ (upd H a (SetSO X.w a (put x l))) s' → Q .none s') : wpAny (model X.prog X.w) X.A (call (.builtin "set.add") [.ref a, .str x u]) Q E s := by
  refine call_add (so_get I ha) small fun h' sb new => ?_
  have there : ∃ o, h'.get? a = some o := by
    have ⟨o, _, _, _, ho, _⟩ := new
    exact ⟨o, ho⟩
  exact h _ (I.write (e := a) (t' := s.toks + 1) (by rw [ha]; trivial) (.inl rfl) (fun b o hb ho => (sb.2 b hb).trans ho) there (so_new new))
/-- sorted(a set of texts), fewer than 64 -/
def rSortedSS (w : World) : List V → Hp → VK → Prop := fun vs H Q => ∃ (a : Addr) (l : List Str), vs = [V.ref a] ∧ H a = some (SetSO w a l) ∧ l.length < 64 ∧ ∀ (ys : List Str) (p : Addr), ys.Perm l → sortedS ys = true → H p = none → Q (.ref p) (upd H p (.lst (ys.map V.str)))
theorem cr_sortedSS (hc : X.calm = true) : CallR X (.builtin "sorted") (rSortedSS X.w) := by
  intro pins s σ H vs us Q I r h
  obtain ⟨a, l, rfl, ha, h64, q⟩ := h
  rw [Vals.ref1 r]
  refine call_sorted (so_get I ha) (I.ok.hd hc) h64 fun s' p out c ys k g o hp hg hi hy hs => ?_
  have hlen : (ys.map V.str).length ≤ sizeLine := by
    rw [List.length_map, hy.length_eq, sizeLine_eq]
    omega
  have hn : H p = none := I.hok.fresh hp
  have J : Inv X pins σ (upd H p (.lst (ys.map V.str))) { s with heap := s'.heap, gens := s'.gens, drawn := s'.drawn, toks := s'.toks } :=
    I.call (ch := []) (Un.laid k hp hn) (I.hok.laid k hp ⟨hlen, out.toList, c, vals_of_strs hi, hg⟩) (by rw [g]; exact I.bare) (fun _ z => nomatch z)
  have e : s' = { s with heap := s'.heap, gens := s'.gens, drawn := s'.drawn, toks := s'.toks } := by
    cases s'
    cases s
    cases o
    rfl
  rw [e]
  exact ⟨.ref p, _, J, rfl, q ys p hy hs hn⟩
end
end TX

/-! {elt for target in iter if ..}, elt a text. -/
namespace TX
open PySem PySem.Spec PyProof.Rows L2 PpSet
/-- the element goes into the set at D -/
def Into (w : World) (D : Addr) (Nx : Hp → Prop) : VK := fun y H => ∃ (z : Str) (l : List Str), y = .str z ∧ H D = some (SetSO w D l) ∧ l.length + 1 < scanBound ∧ Nx (upd H D (SetSO w D (put z l)))
/-- one turn: target, tests, element -/
def Turn (w : World) (g : TG) (tt : TT) (te : TE) (vs : List Nat) (σ : L2.St) (D : Addr) (Nx : Hp → Prop) (x : V) (H : Hp) : Prop :=
  g x (wipe σ vs) H fun σ2 H2 => wipe σ2 vs = wipe σ vs ∧ tt σ2 H2 fun b H3 => if b = true then te σ2 H3 (Into w D Nx) else Nx H3
/-- the set comprehension's reading: W i m what holds before turn i, m falls -/
def tScS (w : World) (wi : TI) (g : TG) (tt : TT) (te : TE) (vs : List Nat) : TE := fun σ H Q => wi σ H fun J H1 => ∀ D, H1 D = none → ∃ W : Nat → Nat → Hp → Prop, (∃ m, W 0 m (upd H1 D (SetSO w D []))) ∧ ∀ i m H, W i m H →
  (J.stop i H ∧ Q (.ref D) H) ∨ (J.go i H ∧ ∃ Nx : Hp → Prop, (∀ H', Nx H' → ∃ m', m' < m ∧ W (i + 1) m' H') ∧ ∀ x H', J.yld i H x H' → Turn w g tt te vs σ D Nx x H')
section
variable {X : Cx}
theorem pe_scS {elt tg iter : Expr} {ifs : List Expr} {scope : Scope} {own : List (PySem.Str × Nat)} {pos : Pos} {wi : TI} {g : TG} {tt : TT} {te : TE} (hc : X.calm = true) (hN : X.N.Nodup) (hi : PI X tg iter wi) (ok : BlkOk X.N X.env.scope scope own)
    (hg : ∀ (s : Shared) (H : Hp) (C : Addr) (cl : List (PySem.Str × Addr)) (fp : List Addr), PG (X.blk s H scope (compEnvC scope cl C X.env) fp) tg g) (ht : ∀ (s : Shared) (H : Hp) (C : Addr) (cl : List (PySem.Str × Addr)) (fp : List Addr), PTs (X.blk s H scope (compEnvC scope cl C X.env) fp) ifs tt)
    (he : ∀ (s : Shared) (H : Hp) (C : Addr) (cl : List (PySem.Str × Addr)) (fp : List Addr), PE (X.blk s H scope (compEnvC scope cl C X.env) fp) elt te) (hs : ∀ x, foldedSetIterable iter X.env x = pure x := by intro _; rfl) :
    PE X (.SetComp elt [⟨tg, iter, ifs, 0⟩] scope pos) (tScS X.w wi g tt te (own.map (·.2))) := by
  refine ⟨fun pins s σ H Q I h => ?_⟩
  rw [eval_SetComp]
  have free : ∀ y ∈ scope.names, y.2 = .free → ∃ c, X.env.cells.lookup y.1 = some c := fun y hy e => (ok.free y hy e).elim (fun k => I.ok.has _ (.inl k)) (fun k => I.ok.has _ (.inr k))
  refine wpAny_comprehension_free rfl hs (closure_ok free) ok.kind (fun y hy e => by rw [ok.uniq y hy, e]) (thn (hi.run pins s σ H _ I h) fun xv s1 hx => thn hx fun itv s2 h2 => ?_)
  obtain ⟨it, fp, tn, J, H2, e, I2, T, st2, f2, q⟩ := h2
  subst e
  refine newSet_ok (newEnv_comp ?_)
  -- the new set is tracked
  obtain ⟨D, hD⟩ : ∃ D, s2.heap.objs.size = D := ⟨_, rfl⟩
  rw [hD]
  obtain ⟨W, ⟨m0, w0⟩, turn⟩ := q D (I2.hok.fresh (Nat.le_of_eq hD))
  obtain ⟨s3, hs3⟩ : ∃ s3 : Shared, ({ s2 with heap := s2.heap.push { cls := .type "set", dict := none, data := .set #[] 0 (.fresh 0 0 (!X.w.params.followText "set-order")) } } : Shared) = s3 := ⟨_, rfl⟩
  have h3 : s3.heap = s2.heap.push { cls := .type "set", dict := none, data := .set #[] 0 (.fresh 0 0 (!X.w.params.followText "set-order")) } := by rw [← hs3]
  obtain ⟨H3, hH3⟩ : ∃ H3, upd H2 D (SetSO X.w D []) = H3 := ⟨_, rfl⟩
  have I3 : Inv X pins σ H3 s3 := by
    rw [← hs3, ← hH3]
    refine I2.laid (t' := s2.toks) (fun b o e => Heap.get?_push_of_some _ e) (Nat.le_of_eq hD) ?_
    rw [← hD]
    exact so_new (fresh X.w)
  rw [hs3]
  rw [hH3] at w0
  -- what the iterator stands upon is not tracked
  have foot : ∀ b ∈ fp, FpOk X pins H3 b ∧ b < s3.heap.objs.size := fun b hb => by
    obtain ⟨o, e, _⟩ := T.obj _ _ st2 b hb
    have lt := Heap.lt_size e
    refine ⟨⟨?_, (f2 b hb).2⟩, ?_⟩
    · rw [← hH3, upd_ne (by rw [← hD]; exact Nat.ne_of_lt lt)]
      exact (f2 b hb).1
    · rw [h3, Heap.size_push]
      exact Nat.lt_succ_of_lt lt
  have st3 : tn 0 s3.heap := T.keep _ _ _ st2 fun b _ o e => by
    rw [h3]
    exact Heap.get?_push_of_some _ e
  have I4 := block_start I3 ok hN foot
  have pg := hg s3 H3 s3.heap.objs.size (cellsFrom (s3.heap.objs.size + 1) scope.names (cloFrom X.env.cells scope.names [])) fp
  have pt := ht s3 H3 s3.heap.objs.size (cellsFrom (s3.heap.objs.size + 1) scope.names (cloFrom X.env.cells scope.names [])) fp
  have pe := he s3 H3 s3.heap.objs.size (cellsFrom (s3.heap.objs.size + 1) scope.names (cloFrom X.env.cells scope.names [])) fp
  show codeAny _ _ (.compStart (.SetComp elt [⟨tg, iter, ifs, 0⟩] scope pos) 0 (.ref it) (.ref D) (compEnvC scope (cellsFrom (s3.heap.objs.size + 1) scope.names (cloFrom X.env.cells scope.names [])) s3.heap.objs.size X.env)) _ { s3 with heap := pushCells (s3.heap.push { cls := .type "dict", data := .dict #[] }) scope.names }
  have bare : ∀ b ∈ fp, H3 b = none := fun b hb => (foot b hb).1.1
  generalize hce : compEnvC scope (cellsFrom (s3.heap.objs.size + 1) scope.names (cloFrom X.env.cells scope.names [])) s3.heap.objs.size X.env = ce at I4 pg pt pe ⊢
  have cL : ce.locals = s3.heap.objs.size := by
    subst hce
    rfl
  generalize hs4 : ({ s3 with heap := pushCells (s3.heap.push { cls := .type "dict", data := .dict #[] }) scope.names } : Shared) = s4 at I4 ⊢
  have st4 : tn 0 s4.heap := T.keep _ _ _ st3 fun b _ o e => by
    rw [← hs4]
    exact pushCells_keeps _ _ _ _ (Heap.get?_push_of_some _ e)
  -- in the block as well
  have stat : ∀ {σ' : L2.St} {H' : Hp} {s' : Shared}, Inv (X.blk s3 H3 scope ce fp) [] σ' H' s' → (∀ b ∈ fp, H' b = none) → ∀ b ∈ fp, FpOk (X.blk s3 H3 scope ce fp) [] H' b := fun {σ' H' s'} I' hn b hb =>
    ⟨hn b hb, (I'.ok.exf b hb).1, I'.ok.exfs b hb, .inl hb, fun x c e => (I'.ok.exf b hb).2 x c e, fun p hp => absurd (show p ∈ ([] : List (Addr × Obj)) ++ [] from hp) (by simp)⟩
  refine (fun (loop : codeAny (model X.prog X.w) X.A (.compLoop (.SetComp elt [⟨tg, iter, ifs, 0⟩] scope pos) 0 (.ref it) (.ref D) ce) _ s4) => codeAny_compStart_set loop (T.self X.A 0 _ _ _ st4 loop)) ?_
  refine compLoopS_any (fun n s' => ∃ i H', Inv (X.blk s3 H3 scope ce fp) [] (wipe σ (own.map (·.2))) H' s' ∧ tn i s'.heap ∧ (∀ b ∈ fp, H' b = none) ∧ W i n H') ?_ m0 ⟨0, H3, I4, st4, bare, w0⟩
  rintro n s5 ⟨i, H5, I5, st5, n5, w5⟩
  rcases turn i n H5 w5 with ⟨stop, fin⟩ | ⟨go, Nx, hNx, step⟩
  · refine thnF (T.done (X.blk s3 H3 scope ce fp) rfl rfl rfl hc i [] s5 _ H5 (fun _ _ => False) I5 (stat I5 n5) st5 stop) fun r s6 ⟨hr, I6⟩ => ?_
    subst hr
    have I7 : Inv X pins σ H5 s6 := I3.call' (ch := fp) I6.os I6.base I6.hok I6.bare fun b hb => ⟨(foot b hb).1.2.2.2.1, (foot b hb).1.2.1, (foot b hb).1.2.2.2.2.1, (foot b hb).1.2.2.2.2.2⟩
    have gone : H5 s3.heap.objs.size = none := by
      have z : H5 ce.locals = none := I6.free
      rw [cL] at z
      exact z
    obtain ⟨m, hn, _⟩ := I6.loc
    have hn : s6.heap.Ns ce.locals m := hn
    rw [cL] at hn
    refine ⟨m, hn, fun h'' sb => ?_⟩
    obtain ⟨f0, f1, f2', f3, f4, f5⟩ := I3.fpOk (Nat.le_refl _) gone
    exact ⟨.ref D, H5, I7.turned (t' := s6.toks) (fun b o hb e => (sb.2 b hb).trans e) f0 f1 f3 f4 f5, rfl, fin⟩
  · refine thnF (T.item (X.blk s3 H3 scope ce fp) rfl rfl rfl hc i [] s5 _ H5 (fun _ _ => False) I5 (stat I5 n5) st5 go) fun r s6 ⟨u, hr, h6⟩ => ?_
    subst hr
    refine thnF h6 fun _ s7 ⟨x, H7, I7, r7, y7, st7, n7⟩ => ?_
    have I7' := I7.pinned (stat I7 n7) (T.obj _ _ st7)
    refine thnF (pg.run _ s7 _ H7 x u _ I7' r7 (step x H7 y7)) fun _ s8 ⟨σ8, H8, I8, hw8, q8⟩ => ?_
    refine thnF (pt.run _ s8 σ8 H8 _ I8 q8) fun b s9 ⟨H9, I9, q9⟩ => ?_
    have next : ∀ {s' : Shared} {H' : Hp}, Inv (X.blk s3 H3 scope ce fp) ([] ++ pinsAt fp s7.heap) σ8 H' s' → Nx H' → ∃ m, m < n ∧ ∃ i H', Inv (X.blk s3 H3 scope ce fp) [] (wipe σ (own.map (·.2))) H' s' ∧ tn i s'.heap ∧ (∀ b ∈ fp, H' b = none) ∧ W i m H' := fun {s' H'} I' nx => by
      obtain ⟨m', hm, w'⟩ := hNx H' nx
      have pinned : ∀ b ∈ fp, ∀ o, s7.heap.get? b = some o → s'.heap.get? b = some o ∧ H' b = none := fun b hb o e => by
        have z := I'.pin (b, o) (List.mem_append_right _ (List.mem_append_right _ (mem_pinsAt hb e)))
        exact ⟨z.1, z.2.1⟩
      have len : (wipe σ (own.map (·.2))).length = σ8.length := by rw [← hw8, wipe_length]
      refine ⟨m', hm, i + 1, H', (I'.unpinned (pins := [])).weak len (fun j v e => ?_), T.keep _ _ _ st7 fun b hb o e => (pinned b hb o e).1, fun b hb => ?_, w'⟩
      · rw [← hw8] at e
        exact (wipe_some e).1
      · obtain ⟨o, e, _⟩ := T.obj _ _ st7 b hb
        exact (pinned b hb o e).2
    cases b with
    | false =>
      simp only [Bool.false_eq_true, if_false] at q9 ⊢
      exact next I9 q9
    | true =>
      simp only [if_true] at q9 ⊢
      refine thnF (pe.run _ s9 σ8 H9 _ I9 q9) fun z s10 ⟨yv, H10, I10, r10, zt, l0, ey, hD10, hz10, nx⟩ => ?_
      subst ey
      obtain ⟨tk, rfl⟩ : ∃ tk, z = Value.str zt tk := r10
      exact so_add (X := X.blk s3 H3 scope ce fp) I10 hD10 hz10 fun s11 I11 => next I11 nx
end
end TX

namespace L41
open PySem PySem.Spec PyProof.Rows L2 GR WX TX
def varName : PyData → Option Str
  | .tuple [.str w, .str z] => if w = "var" then some z else none
  | _ => none
/-- the variables among these parts -/
def vars (l : List PyData) : List Str := l.filterMap varName
theorem Ex.var {zs : List Str} {n : Nat} {rest : List PyData} (h : Ex zs n (.tuple (.str "var" :: rest))) : ∃ z, z ∈ zs ∧ rest = [.str z] := by
  generalize hx : PyData.tuple (.str "var" :: rest) = x at h
  cases h with
  | leaf n x h =>
    cases h with
    | int i _ _ => cases hx
    | let_ i _ _ => cases hx
    | key => cases hx
    | var z hz =>
      cases hx
      exact ⟨z, hz, rfl⟩
  | cell n t v x h1 h2 h3 => cases hx
  | op n o x y h1 h2 h3 =>
    cases hx
    exact absurd h1 (by decide)
  | iff n x y z h1 h2 h3 => cases hx
  | agg n o t xs ys h1 h2 h3 h4 h5 =>
    cases hx
    simp only [aggs, List.mem_cons, List.not_mem_nil, or_false, Prod.mk.injEq] at h1
    rcases h1 with ⟨h, _⟩ | ⟨h, _⟩ | ⟨h, _⟩ | ⟨h, _⟩ <;> exact absurd h (by decide)
theorem varName_no {w : Str} {rest : List PyData} (h : w ≠ "var") : varName (.tuple (.str w :: rest)) = none := by
  unfold varName
  split
  · rename_i w' z e
    cases e
    rw [if_neg h]
  · rfl
theorem vars_take {l : List PyData} {i : Nat} {x : PyData} (h : l[i]? = some x) : vars (l.take (i + 1)) = vars (l.take i) ++ (varName x).toList := by
  unfold vars
  rw [take_snoc h, List.filterMap_append]
  cases e : varName x with
  | none => simp [e]
  | some z => simp [e]
theorem lvls_ex {zs : List Str} : ∀ {n : Nat} {l : List PyData}, (∀ x, x ∈ l → Ex zs n x) → ∀ y, y ∈ lvls n l → Ex zs n y
  | 0, l, h, y, hy => by
    simp only [lvls, List.not_mem_nil] at hy
  | n + 1, l, h, y, hy => by
    rw [lvls] at hy
    rcases List.mem_append.mp hy with hy | hy
    · exact h y hy
    · exact (lvls_ex (down_ex h) y hy).mono (Nat.le_succ n)
theorem vars_in {zs : List Str} {n : Nat} {l : List PyData} (h : ∀ x, x ∈ l → Ex zs n x) : ∀ z, z ∈ vars l → z ∈ zs := by
  intro z hz
  obtain ⟨x, hx, e⟩ := List.mem_filterMap.mp hz
  obtain ⟨w, fs, rest, rfl, _, _⟩ := (h x hx).form
  by_cases hw : w = "var"
  · subst hw
    obtain ⟨z', hz', rfl⟩ := (h _ hx).var
    unfold varName at e
    simp only [if_pos] at e
    exact Option.some.inj e ▸ hz'
  · rw [varName_no hw] at e
    cases e
theorem nodup_le : ∀ {l m : List Str}, l.Nodup → (∀ z, z ∈ l → z ∈ m) → l.length ≤ m.length
  | [], _, _, _ => Nat.zero_le _
  | a :: l, m, h, s => by
    obtain ⟨h1, h2⟩ := List.nodup_cons.mp h
    have ha := s a List.mem_cons_self
    have := nodup_le (m := m.erase a) h2 fun z hz => by
      have hne : z ≠ a := fun e => h1 (e ▸ hz)
      exact (List.mem_erase_of_ne hne).mpr (s z (List.mem_cons_of_mem _ hz))
    rw [List.length_erase_of_mem ha] at this
    have pos : 0 < m.length := List.length_pos_of_mem ha
    rw [List.length_cons]
    omega
section
variable {P : Program} {w : World} {K : PySem.W.Frag} {mg : Str → Option Value} {base : Heap}
abbrev N_vars : List Str := ["expression", "part"]
def sp_variables_of (K : PySem.W.Frag) : Sp := fun vs H Q _ => ∃ (v : V) (x : PyData) (zs : List Str) (n : Nat), vs = [v] ∧ Dp K H v x ∧ Ex zs n x ∧ (flatP n x).length ≤ 200000 ∧ zs.length ≤ 60 ∧
  ∀ H' p ys, Same H H' → H p = none → H' p = some (.tup (ys.map V.str)) → ys.Nodup → sortedS ys = true → (∀ z, z ∈ ys ↔ z ∈ vars (lvls n [x])) → Q (.ref p) H'
end
end L41

namespace L41
open PySem PySem.Spec PyProof.Rows L2 GR WX TX
def sp_test (K : PySem.W.Frag) (f : Nat → PyData → Bool) : Sp := fun vs H Q _ => ∃ (v : V) (x : PyData) (zs : List Str) (n : Nat), vs = [v] ∧ Dp K H v x ∧ Ex zs n x ∧ (flatP n x).length ≤ 200000 ∧ n ≤ 30 ∧ zs.length ≤ 60 ∧ (∀ z, z ∈ zs → PyData.strOk z = true) ∧ ∀ H', Same H H' → Q (.bl (f n x)) H'
/-- the word at the head -/
def headW : PyData → Str
  | .tuple (.str w :: _) => w
  | _ => Str.empty
abbrev W1 : List Str := ["free"]
/-- what is contained and free -/
def kidsF : PyData → List PyData
  | .tuple (.str w :: rest) => pick W1 (fieldsOf w) rest
  | _ => []
theorem kidsF_of {w : Str} {fs : List Str} {rest : List PyData} (ht : (w, fs) ∈ table) : kidsF (.tuple (.str w :: rest)) = pick W1 fs rest := by
  show pick W1 (fieldsOf w) rest = _
  rw [show fieldsOf w = fs from fieldsOf_table (w, fs) ht]
theorem pick_sub : ∀ (fs : List Str) (ds : List PyData), (pick W1 fs ds).Sublist (pick W2 fs ds)
  | f :: fs, d :: ds => by
    simp only [pick]
    refine List.Sublist.append ?_ (pick_sub fs ds)
    by_cases h1 : f = "extra"
    · rw [if_pos h1, if_pos h1]
      exact List.Sublist.refl _
    · rw [if_neg h1, if_neg h1]
      by_cases h2 : f ∈ W1
      · have h3 : f ∈ W2 := by
          rw [List.mem_singleton.mp h2]
          decide
        rw [if_pos h2, if_pos h3]
        exact List.Sublist.refl _
      · rw [if_neg h2]
        exact List.nil_sublist _
  | [], _ => by simp only [pick]; exact List.Sublist.refl _
  | _ :: _, [] => by simp only [pick]; exact List.Sublist.refl _
theorem kidsF_sub (x : PyData) : (kidsF x).Sublist (kids x) := by
  unfold kidsF kids
  split
  · exact pick_sub _ _
  · exact List.nil_sublist _
def freeKey : Nat → PyData → Bool
  | 0, _ => false
  | n + 1, x => decide (headW x = "key") || (kidsF x).any (freeKey n)
theorem any_congr {α : Type} {f g : α → Bool} : ∀ {l : List α}, (∀ x, x ∈ l → f x = g x) → l.any f = l.any g
  | [], _ => rfl
  | x :: l, h => by
    rw [List.any_cons, List.any_cons, h x List.mem_cons_self, any_congr fun y hy => h y (List.mem_cons_of_mem _ hy)]
theorem Ex.kidsF {zs : List Str} {n : Nat} {x : PyData} (h : Ex zs (n + 1) x) : ∀ y, y ∈ kidsF x → Ex zs n y := fun y hy => h.kids.1 y ((kidsF_sub x).subset hy)
theorem free_stable {zs : List Str} : ∀ {m k : Nat} {x : PyData}, Ex zs m x → m ≤ k → freeKey k x = freeKey m x
  | 0, _, _, h, _ => by cases h
  | m + 1, 0, _, _, hk => by omega
  | m + 1, k + 1, x, h, hk => by
    simp only [freeKey]
    rw [any_congr fun y hy => free_stable (h.kidsF y hy) (by omega : m ≤ k)]
theorem flatMap_congr {α β : Type} {f g : α → List β} : ∀ {l : List α}, (∀ x, x ∈ l → f x = g x) → l.flatMap f = l.flatMap g
  | [], _ => rfl
  | x :: l, h => by
    rw [List.flatMap_cons, List.flatMap_cons, h x List.mem_cons_self, flatMap_congr fun y hy => h y (List.mem_cons_of_mem _ hy)]
theorem flatP_stable {zs : List Str} : ∀ {m k : Nat} {x : PyData}, Ex zs m x → m ≤ k → flatP k x = flatP m x
  | 0, _, _, h, _ => by cases h
  | m + 1, 0, _, _, hk => by omega
  | m + 1, k + 1, x, h, hk => by
    simp only [flatP]
    rw [flatMap_congr fun y hy => flatP_stable (h.kids.1 y hy) (by omega : m ≤ k)]
/-- how many parts the parts of a list have -/
def szL (n : Nat) (l : List PyData) : Nat := (l.map fun y => (flatP n y).length).sum
theorem szL_append (n : Nat) (a b : List PyData) : szL n (a ++ b) = szL n a + szL n b := by
  unfold szL
  rw [List.map_append, List.sum_append]
theorem szL_cons (n : Nat) (x : PyData) (l : List PyData) : szL n (x :: l) = (flatP n x).length + szL n l := by
  unfold szL
  rw [List.map_cons, List.sum_cons]
theorem szL_sub {n : Nat} {a b : List PyData} (h : a.Sublist b) : szL n a ≤ szL n b := by
  induction h with
  | slnil => exact Nat.le_refl _
  | cons x _ ih =>
    rw [szL_cons]
    omega
  | cons_cons x _ ih =>
    rw [szL_cons, szL_cons]
    omega
theorem szL_kids {zs : List Str} {n : Nat} {x : PyData} (h : Ex zs n x) : szL n (kids x) + 1 = (flatP n x).length := by
  cases n with
  | zero => cases h
  | succ n =>
    have : szL (n + 1) (kids x) = ((kids x).flatMap (flatP n)).length := by
      unfold szL
      rw [List.length_flatMap]
      congr 1
      refine List.map_congr_left fun y hy => ?_
      rw [flatP_stable (h.kids.1 y hy) (Nat.le_succ n)]
    rw [this]
    simp only [flatP, List.length_cons]
theorem szL_len {zs : List Str} {n : Nat} {l : List PyData} (h : ∀ x, x ∈ l → Ex zs n x) : l.length ≤ szL n l := by
  induction l with
  | nil => exact Nat.zero_le _
  | cons x l ih =>
    have h1 := szL_kids (h x List.mem_cons_self)
    have h2 := ih fun y hy => h y (List.mem_cons_of_mem _ hy)
    rw [szL_cons, List.length_cons]
    omega
theorem dpAll_split {K : PySem.W.Frag} {H : Hp} : ∀ {a b : List V} {ds : List PyData}, DpAll K H (a ++ b) ds → ∃ d1 d2, ds = d1 ++ d2 ∧ DpAll K H a d1 ∧ DpAll K H b d2
  | [], b, ds, h => ⟨[], ds, rfl, .nil, h⟩
  | v :: a, b, ds, h => by
    cases h with
    | cons h1 h2 =>
    obtain ⟨d1, d2, rfl, g1, g2⟩ := dpAll_split h2
    exact ⟨_ :: d1, d2, rfl, .cons h1 g1, g2⟩
theorem dpAll_last {K : PySem.W.Frag} {H : Hp} {us : List V} {xs : List PyData} (h : DpAll K H us xs) (hne : us ≠ []) : ∃ y d xs', xs = xs' ++ [d] ∧ us[us.length - 1]? = some y ∧ DpAll K H us.dropLast xs' ∧ Dp K H y d := by
  have e := List.dropLast_concat_getLast hne
  rw [← e] at h
  obtain ⟨d1, d2, rfl, g1, g2⟩ := dpAll_split h
  cases g2 with
  | cons g3 g4 =>
  cases g4
  refine ⟨us.getLast hne, _, d1, rfl, ?_, g1, g3⟩
  rw [← List.getLast?_eq_getElem?, List.getLast?_eq_getLast hne]
section
variable {P : Program} {w : World} {K : PySem.W.Frag} {mg : Str → Option Value} {base : Heap}
def sp_contained_free (K : PySem.W.Frag) : Sp := fun vs H Q _ => ∃ (v : V) (x : PyData) (zs : List Str) (n : Nat), vs = [v] ∧ Dp K H v x ∧ Ex zs (n + 1) x ∧ ∀ H' p us, Same H H' → H p = none → H' p = some (.lst us) → DpAll K H' us (kidsF x) → Q (.ref p) H'
end
end L41

namespace L41
open PySem PySem.Spec PyProof.Rows L2 GR WX TX
section
variable {P : Program} {w : World} {K : PySem.W.Frag} {mg : Str → Option Value} {base : Heap}
/-- what is still to do: the list at td -/
def FInv (K : PySem.W.Frag) (zs : List Str) (n : Nat) (x : PyData) (v : V) (td : Addr) (H0 : Hp) (m : Nat) (σ : L2.St) (H : Hp) : Prop :=
  ∃ (z : Option V) (us : List V) (xs : List PyData), σ = [some v, some (.ref td), z] ∧ H td = some (.lst us) ∧ DpAll K H us xs ∧ (∀ y, y ∈ xs → Ex zs n y) ∧ m = szL n xs ∧ m ≤ 200000 ∧ freeKey n x = xs.any (freeKey n) ∧ (∀ b o, b ≠ td → H0 b = some o → H b = some o)
end
end L41

namespace L41
open PySem PySem.Spec PyProof.Rows L2 GR WX TX
def closedE (n : Nat) (x : PyData) : Bool := (vars (lvls n [x])).isEmpty && !freeKey n x
section
variable {P : Program} {w : World} {K : PySem.W.Frag} {mg : Str → Option Value} {base : Heap}
end
end L41

namespace L41
open PySem PySem.Spec PyProof.Rows L2 GR
theorem aggk_aggs {o : Str} {a b : Nat} (h : (o, a, b) ∈ aggk) : (o, a + b + 2) ∈ aggs ∧ a + b ≤ 2 := by
  simp only [aggk, List.mem_cons, List.not_mem_nil, or_false, Prod.mk.injEq] at h
  rcases h with ⟨rfl, rfl, rfl⟩ | ⟨rfl, rfl, rfl⟩ | ⟨rfl, rfl, rfl⟩ | ⟨rfl, rfl, rfl⟩ <;> exact ⟨by decide, by decide⟩
theorem ex_row {zs : List Str} {t : Str} {n : Nat} (hi : ("in" : Str) ∈ zs) (ht : t ∈ zs) (hn : 2 ≤ n) : Ex zs n (rowX t) := by
  obtain ⟨k, rfl⟩ : ∃ k, n = k + 2 := ⟨n - 2, by omega⟩
  exact .cell (k + 1) t "in" _ ht hi (.leaf k _ .key)
theorem Cx.ex {zs sc : List Str} {b : Bool} {n : Nat} {x : PyData} (hi : ("in" : Str) ∈ zs) (h : Cx zs sc b n x) : Ex (zs ++ sc) n x := by
  have l : ∀ {z : Str}, z ∈ zs → z ∈ zs ++ sc := fun h => List.mem_append_left _ h
  induction h with
  | int b n i h1 h2 => exact .leaf n _ (.int i h1 h2)
  | let_ b n i g9 h1 h2 => exact .leaf n _ (.let_ i h1 h2)
  | key n => exact .leaf n _ .key
  | var b n z h1 => exact .leaf n _ (.var z (List.mem_append_right _ h1))
  | cell b n t v x h1 h2 _ ih => exact .cell n t v x (l h1.1) (l h2.1) ih
  | op b n o x y h1 _ _ ih1 ih2 =>
    refine .op n o x y ?_ ih1 ih2
    simp only [ops5, List.mem_cons, List.not_mem_nil, or_false] at h1
    rcases h1 with rfl | rfl | rfl | rfl | rfl <;> decide
  | at_ b n x y _ _ ih1 ih2 => exact .op n "at" x y (by decide) ih1 ih2
  | iff b n x y z _ _ _ ih1 ih2 ih3 => exact .iff n x y z ih1 ih2 ih3
  | agg b n o t p xs vs ds g0 h0 h1 h2 h3 _ _ _ _ ih1 ih2 ih3 ih4 =>
    refine .agg n o t xs (rowX t :: p :: (vs ++ ds)) ?_ (l h2.1) (by omega) (fun x hx => (ih1 x hx).mono (by omega)) fun y hy => ?_
    · rw [List.length_cons, List.length_cons, List.length_append]
      exact (aggk_aggs h1).1
    · rcases List.mem_cons.mp hy with rfl | hy
      · exact ex_row (l hi) (l h2.1) h0
      rcases List.mem_cons.mp hy with rfl | hy
      · exact ih2
      rcases List.mem_append.mp hy with hy | hy
      · exact ih3 y hy
      · exact ih4 y hy
/-- what it contains is of the same kind -/
theorem Cx.kids {zs sc : List Str} {b : Bool} {n : Nat} {x : PyData} (hi : ("in" : Str) ∈ zs) (h : Cx zs sc b (n + 1) x) : ∀ y, y ∈ kids x → ∃ b', Cx zs sc b' n y := by
  cases h with
  | int b n i h1 h2 => rw [kids_leaf (zs := zs) (.int i h1 h2)]; exact fun y hy => (nomatch hy)
  | let_ b n i g9 h1 h2 => rw [kids_leaf (zs := zs) (.let_ i h1 h2)]; exact fun y hy => (nomatch hy)
  | key n => rw [kids_leaf (zs := zs) .key]; exact fun y hy => (nomatch hy)
  | var b n z h1 => rw [kids_leaf (zs := sc) (.var z h1)]; exact fun y hy => (nomatch hy)
  | cell b n t v x h1 h2 h3 => rw [kids_cell]; exact fun y hy => by rw [List.mem_singleton.mp hy]; exact ⟨b, h3⟩
  | op b n o x y h1 h2 h3 =>
    rw [kids_op (by simp only [ops5, List.mem_cons, List.not_mem_nil, or_false] at h1; rcases h1 with rfl | rfl | rfl | rfl | rfl <;> decide)]
    intro z hz
    simp only [List.mem_cons, List.not_mem_nil, or_false] at hz
    rcases hz with rfl | rfl
    · exact ⟨b, h2⟩
    · exact ⟨b, h3⟩
  | at_ b n x y h2 h3 =>
    rw [kids_op (by decide)]
    intro z hz
    simp only [List.mem_cons, List.not_mem_nil, or_false] at hz
    rcases hz with rfl | rfl
    · exact ⟨b, h2⟩
    · exact ⟨true, h3⟩
  | iff b n x y z h1 h2 h3 =>
    rw [kids_if]
    intro u hu
    simp only [List.mem_cons, List.not_mem_nil, or_false] at hu
    rcases hu with rfl | rfl | rfl
    · exact ⟨b, h1⟩
    · exact ⟨b, h2⟩
    · exact ⟨b, h3⟩
  | agg b n o t p xs vs ds g0 h0 h1 h2 h3 h4 h5 h6 h7 =>
    rw [kids_agg (by rw [List.length_cons, List.length_cons, List.length_append]; exact (aggk_aggs h1).1)]
    intro y hy
    rcases List.mem_append.mp hy with hy | hy
    · exact ⟨b, (h4 y hy).mono (by omega)⟩
    rcases List.mem_cons.mp hy with rfl | hy
    · obtain ⟨k, rfl⟩ : ∃ k, n = k + 2 := ⟨n - 2, by omega⟩
      exact ⟨true, .cell true (k + 1) t "in" _ h2 ⟨hi, by decide⟩ (.key k)⟩
    rcases List.mem_cons.mp hy with rfl | hy
    · exact ⟨true, h5⟩
    rcases List.mem_append.mp hy with hy | hy
    · exact ⟨true, h6 y hy⟩
    · exact ⟨b, h7 y hy⟩
/-- all its parts are -/
theorem Cx.parts {zs sc : List Str} (hi : ("in" : Str) ∈ zs) : ∀ {n : Nat} {b : Bool} {x : PyData}, Cx zs sc b n x → ∀ y, y ∈ flatP n x → ∃ b' m, Cx zs sc b' m y
  | 0, b, x, h, y, hy => by cases h
  | n + 1, b, x, h, y, hy => by
    rw [flatP] at hy
    rcases List.mem_cons.mp hy with rfl | hy
    · exact ⟨b, n + 1, h⟩
    · obtain ⟨k, hk, hy⟩ := List.mem_flatMap.mp hy
      obtain ⟨b', hb⟩ := h.kids hi k hk
      exact Cx.parts hi hb y hy
theorem lvls_mem {n : Nat} {x y : PyData} : y ∈ lvls n [x] ↔ y ∈ flatP n x := by
  have := (lvls_perm n [x]).mem_iff (a := y)
  rw [this, List.flatMap_cons, List.flatMap_nil, List.append_nil]
theorem Cx.novar {zs : List Str} {b : Bool} {m : Nat} {x : PyData} (h : Cx zs [] b m x) : varName x = none := by
  cases h with
  | var b n z h1 => exact (nomatch h1)
  | op b n o x y h1 _ _ =>
    refine varName_no ?_
    simp only [ops5, List.mem_cons, List.not_mem_nil, or_false] at h1
    rcases h1 with rfl | rfl | rfl | rfl | rfl <;> decide
  | agg b n o t p xs vs ds g0 h0 h1 h2 h3 h4 h5 h6 h7 =>
    refine varName_no ?_
    simp only [aggk, List.mem_cons, List.not_mem_nil, or_false, Prod.mk.injEq] at h1
    rcases h1 with ⟨rfl, _⟩ | ⟨rfl, _⟩ | ⟨rfl, _⟩ | ⟨rfl, _⟩ <;> decide
  | _ => exact varName_no (by decide)
theorem Cx.novars {zs : List Str} {b : Bool} {n : Nat} {x : PyData} (hi : ("in" : Str) ∈ zs) (h : Cx zs [] b n x) : vars (lvls n [x]) = [] := by
  unfold vars
  rw [List.filterMap_eq_nil_iff]
  intro y hy
  obtain ⟨b', m, hm⟩ := h.parts hi y (lvls_mem.mp hy)
  exact hm.novar
theorem q_no {W : List Str} {f : Str} {d : PyData} {fs : List Str} {ds : List PyData} (h : f ≠ "extra") (h2 : f ∉ W) : pick W (f :: fs) (d :: ds) = pick W fs ds := by
  simp only [pick, if_neg h, if_neg h2, List.nil_append]
theorem q_yes {W : List Str} {f : Str} {d : PyData} {fs : List Str} {ds : List PyData} (h : f ≠ "extra") (h2 : f ∈ W) : pick W (f :: fs) (d :: ds) = d :: pick W fs ds := by
  simp only [pick, if_neg h, if_pos h2, List.cons_append, List.nil_append]
theorem q_ex {W : List Str} {xs : List PyData} {fs : List Str} {ds : List PyData} : pick W ("extra" :: fs) (.tuple xs :: ds) = xs ++ pick W fs ds := by
  simp only [pick, if_pos, items]
theorem q_nil {W : List Str} : pick W [] [] = [] := rfl
theorem head_no {o : Str} {ds : List PyData} (h : o ≠ "key") : decide (headW (.tuple (.str o :: ds)) = "key") = false := by
  refine decide_eq_false ?_
  exact h
theorem Cx.nokey {zs sc : List Str} : ∀ {n : Nat} {x : PyData}, Cx zs sc false n x → freeKey n x = false
  | 0, x, h => by cases h
  | n + 1, x, h => by
    rw [freeKey, Bool.or_eq_false_iff]
    cases h with
    | int b n i h1 h2 => exact ⟨head_no (by decide), by rw [kidsF_of (fs := ["value"]) (by decide), q_no (by decide) (by decide), q_nil]; rfl⟩
    | let_ b n i g9 h1 h2 => exact ⟨head_no (by decide), by rw [kidsF_of (fs := ["position"]) (by decide), q_no (by decide) (by decide), q_nil]; rfl⟩
    | var b n z h1 => exact ⟨head_no (by decide), by rw [kidsF_of (fs := ["name"]) (by decide), q_no (by decide) (by decide), q_nil]; rfl⟩
    | cell b n t v x h1 h2 h3 => exact ⟨head_no (by decide), by rw [kidsF_of (fs := ["name", "free", "name"]) (by decide), q_no (by decide) (by decide), q_yes (by decide) (by decide), q_no (by decide) (by decide), q_nil, List.any_cons, h3.nokey]; rfl⟩
    | op b n o x y h1 h2 h3 =>
      have e : kidsF (.tuple [.str o, x, y]) = [x, y] := by
        simp only [ops5, List.mem_cons, List.not_mem_nil, or_false] at h1
        rcases h1 with rfl | rfl | rfl | rfl | rfl <;> rw [kidsF_of (fs := ["free", "free"]) (by decide), q_yes (by decide) (by decide), q_yes (by decide) (by decide), q_nil]
      rw [e, List.any_cons, List.any_cons, h2.nokey, h3.nokey]
      refine ⟨?_, rfl⟩
      simp only [ops5, List.mem_cons, List.not_mem_nil, or_false] at h1
      rcases h1 with rfl | rfl | rfl | rfl | rfl <;> exact head_no (by decide)
    | at_ b n x y h2 h3 => exact ⟨head_no (by decide), by rw [kidsF_of (fs := ["free", "bound"]) (by decide), q_yes (by decide) (by decide), q_no (by decide) (by decide), q_nil, List.any_cons, h2.nokey]; rfl⟩
    | iff b n x y z h1 h2 h3 => exact ⟨head_no (by decide), by rw [kidsF_of (fs := ["free", "free", "free"]) (by decide), q_yes (by decide) (by decide), q_yes (by decide) (by decide), q_yes (by decide) (by decide), q_nil, List.any_cons, List.any_cons, List.any_cons, h1.nokey, h2.nokey, h3.nokey]; rfl⟩
    | agg b n o t p xs vs ds g0 h0 h1 h2 h3 h4 h5 h6 h7 =>
      have e : kidsF (.tuple (.str o :: .str t :: .tuple xs :: rowX t :: p :: (vs ++ ds))) = xs ++ ds := by
        simp only [aggk, List.mem_cons, List.not_mem_nil, or_false, Prod.mk.injEq] at h1
        rcases h1 with ⟨rfl, hv, hd⟩ | ⟨rfl, hv, hd⟩ | ⟨rfl, hv, hd⟩ | ⟨rfl, hv, hd⟩
        · rw [List.eq_nil_of_length_eq_zero hv, List.eq_nil_of_length_eq_zero hd]
          rw [kidsF_of (fs := ["name", "extra", "bound", "bound"]) (by decide), q_no (by decide) (by decide), q_ex, q_no (by decide) (by decide), List.nil_append, q_no (by decide) (by decide), q_nil]
        · obtain ⟨v, rfl⟩ := List.length_eq_one_iff.mp hv
          rw [List.eq_nil_of_length_eq_zero hd]
          rw [kidsF_of (fs := ["name", "extra", "bound", "bound", "bound"]) (by decide), q_no (by decide) (by decide), q_ex, q_no (by decide) (by decide), List.append_nil, q_no (by decide) (by decide), q_no (by decide) (by decide), q_nil]
        · obtain ⟨v, rfl⟩ := List.length_eq_one_iff.mp hv
          obtain ⟨d, rfl⟩ := List.length_eq_one_iff.mp hd
          rw [kidsF_of (fs := ["name", "extra", "bound", "bound", "bound", "free"]) (by decide), q_no (by decide) (by decide), q_ex, q_no (by decide) (by decide), List.cons_append, List.nil_append, q_no (by decide) (by decide), q_no (by decide) (by decide), q_yes (by decide) (by decide), q_nil]
        · rw [List.eq_nil_of_length_eq_zero hv]
          obtain ⟨d, rfl⟩ := List.length_eq_one_iff.mp hd
          rw [kidsF_of (fs := ["name", "extra", "bound", "bound", "free"]) (by decide), q_no (by decide) (by decide), q_ex, q_no (by decide) (by decide), List.nil_append, q_no (by decide) (by decide), q_yes (by decide) (by decide), q_nil]
      rw [e, List.any_eq_false]
      refine ⟨?_, fun y hy => ?_⟩
      · simp only [aggk, List.mem_cons, List.not_mem_nil, or_false, Prod.mk.injEq] at h1
        rcases h1 with ⟨rfl, _⟩ | ⟨rfl, _⟩ | ⟨rfl, _⟩ | ⟨rfl, _⟩ <;> exact head_no (by decide)
      · rcases List.mem_append.mp hy with hy | hy
        · rw [((h4 y hy).mono (show 1 ≤ n by omega)).nokey]; exact Bool.false_ne_true
        · rw [(h7 y hy).nokey]; exact Bool.false_ne_true
theorem Cx.closed {zs : List Str} {n : Nat} {x : PyData} (hi : ("in" : Str) ∈ zs) (h : Cx zs [] false n x) : closedE n x = true := by
  unfold closedE
  rw [h.novars hi, h.nokey]
  rfl
end L41

set_option maxHeartbeats 400000
/-! CL: defs that are handed a function made by another def (its captured cells stand in frames that run), and call it. -/
namespace CLo
open PySem PySem.Spec PyProof.Rows L2 GR NdefX LamX
/-- a def by its promise sp i, i of what holds at its entry -/
structure FnP {ι : Type} (P : Program) (w : World) (K : PySem.W.Frag) (mg : Str → Option Value) (base : Heap) (k : Nat) (f : Addr) (fd : FuncData) (ps : List Str) (pre : ι → Around → List Env → Shared → Hp → Prop) (sp : ι → Sp) : Prop where
  size : ∀ i vs H Q E, sp i vs H Q E → vs.length = ps.length
  go : ∀ (i : ι) (A : Around) (outer : List Env) (s : Shared) (H : Hp) (args : Args) (us : List Value) (vs : List V) (Q : VK) (E : XK),
    pre i A outer s H → Room k A → Env0 P w K mg base A outer s H → BindsTo s fd args (ps.zip us) → Vals vs us → sp i vs H Q E → codeAny (model P w) A (.call (.ref f) args) (CR CX0 outer P w H s Q E) s
section
variable {ι : Type} {P : Program} {w : World} {K : PySem.W.Frag} {mg : Str → Option Value} {base : Heap} {pre : ι → Around → List Env → Shared → Hp → Prop} {sp : ι → Sp}
theorem FnP.mono {j k : Nat} {f : Addr} {fd : FuncData} {ps : List Str} (F : FnP P w K mg base j f fd ps pre sp) (h : j ≤ k) : FnP P w K mg base k f fd ps pre sp :=
  ⟨F.size, fun i A outer s H args us vs Q E hp hr => F.go i A outer s H args us vs Q E hp (hr.mono h)⟩
theorem ok_p {x qual : Str} {st : Stmt} {f : Addr} {fd : FuncData} {N ps : List Str} {k : Nat} (F : Fun K x qual st f fd) (S : FnScope N ps (defScope st)) (size : ∀ i vs H Q E, sp i vs H Q E → vs.length = ps.length)
    (body : ∀ (i : ι) (cdv : Value) (A : Around) (outer : List Env) (s : Shared) (H : Hp) (vs : List V) (Q : VK) (E : XK), pre i A outer s H → K.lookup f = K.lookup f → Room k (A.deeper (envOfC qual (defScope st) s.heap.objs.size f cdv)) → sp i vs H Q E →
      ∃ t, PSs (cxOf CX0 P w K mg base N qual (defScope st) f cdv A outer s H E).nox (defBody st) t ∧ t { nx := fun _ H' => Q .non H', rt := Q } (start N vs) H) : FnP P w K mg base (k + 1) f fd ps pre sp := by
  obtain ⟨oc, od, kV, doc, pm, an, cdv, ct, osl, rfl, lk, hcd⟩ := F.ex
  refine ⟨size, fun i A outer s H args us vs Q E hp room e0 bnd rel hsp => ?_⟩
  have inK : K.In s.heap := e0.mod.kin.keeps fun b o q => (e0.bs b o q).1
  obtain ⟨t, ht, hq⟩ := body i cdv A outer s H vs Q E hp rfl (room.deeper _) hsp
  refine codeAny_call_function room.depth (inK f _ lk) rfl S.co S.gen rfl (PySem.W.codeRec_of inK hcd) (bnd _ _ _ _ (wpAny_newFunctionEnv_cells S.kind (fun ⟨n, v⟩ hy => ?_) fun env he s1 inC => ?_))
  · exact (S.par n (List.of_mem_zip hy).1).elim .inl fun q => .inr ⟨q, PySem.W.cellsFrom_some _ _ _ (.inl q)⟩
  · cases he
    refine ⟨(e0.mod.nolimit.keeps fun b o q => (e0.bs b o q).1).keeps inC.toInCall.keep, codeAny_func ?_⟩
    have I0 := inv_start (CX := CX0) (P := P) (w := w) (K := K) (mg := mg) (base := base) (E := E) S room.hd e0 (size i _ _ _ _ hsp) rel inC
    refine wpAny_mono (ht.nox.run [] s1 (start N vs) H _ I0 hq) ?_ (fun _ _ z => z)
    rintro (_ | _ | _ | u) s' hs
    · obtain ⟨σ', H', J, q⟩ := hs
      exact ⟨.non, H', J.os, J.bare, J.base, J.hok, rfl, q⟩
    · obtain ⟨_, _, _, q⟩ := hs
      exact q.elim
    · obtain ⟨_, _, _, q⟩ := hs
      exact q.elim
    · obtain ⟨v, σ', H', J, rv, q⟩ := hs
      exact ⟨v, H', J.os, J.bare, J.base, J.hok, rv, q⟩
end
/-- a cell of the running def is no frame's own object -/
theorem cell_out {X : Cx} {pins : List (Addr × Obj)} {σ : L2.St} {H : Hp} {s : Shared} (I : Inv X pins σ H s) {y : Str} {c : Addr} (e : X.env.cells.lookup y = some c) (hf : X.fn y = true) : c ∉ frs X.stack := fun hc => by
  rcases List.mem_cons.mp (I.stkSub c hc) with z | z
  · exact I.cne y c e z
  · obtain ⟨_, o, ho, _⟩ := I.ok.funs.mem z
    exact absurd (Nat.lt_of_lt_of_le (Heap.lt_size ho) (I.ok.cab y c hf e)) (Nat.lt_irrefl _)
/-- the function F stands at g, its captured cells hold ws -/
structure ClP (F : NF) (fr : List Str) (g : Addr) (ws : List (Option V)) (outer : List Env) (s : Shared) (H : Hp) : Prop where
  fn : H g = some (FnO g F)
  code : H F.c = some (CodeO F.c F.qual)
  cells : CellsAt F.cl fr ws s.heap H
  out : ∀ y c, F.cl.lookup y = some c → c ∉ frs outer
abbrev CI := NF × Addr × List (Option V)
def preC (Γ : NF → Prop) (fr : List Str) : CI → Around → List Env → Shared → Hp → Prop := fun i _ outer s H => Γ i.1 ∧ ClP i.1 fr i.2.1 i.2.2 outer s H
section
variable {X : Cx} {k : Nat} {f : Addr} {fd : FuncData} {ps : List Str} {x : Str} {p pos : Pos} {e : Expr} {es : List Expr} {t : TA}
/-- f(.., g, ..), g a function made here: its cells are this frame's -/
def tCallC (mk : Addr → NF) (js : List Nat) (sp : CI → Sp) (t : TA) : TE := fun σ H Q => t σ H fun vs H1 => ∃ g c', H1 g = some (FnO g (mk c')) ∧ H1 (mk c').c = some (CodeO (mk c').c (mk c').qual) ∧ sp (mk c', g, js.map (slotAt σ)) vs H1 Q E0
theorem pe_callC {Γ : NF → Prop} {mk : Addr → NF} {cl : List (Str × Addr)} {fr : List Str} {js : List Nat} {sp : CI → Sp} (G : FnP X.prog X.w X.K X.mg X.base k f fd ps (preC Γ fr) sp) (hΓ : ∀ c', Γ (mk c')) (hcl : ∀ c', (mk c').cl = cl) (cp : X.Ok → Caps X cl fr js) (hfn : ∀ y, X.fn y = true) (hr : Room k X.A) (gx : Gl X x) (hm : X.mg x = some (.ref f)) (hk : PySem.W.keepIn X.K (.ref f) = true) (hb : Binds X.K fd ps [])
    (ha : PA X (e :: es) t) (hdb : (x == ("__debug__" : Str)) = false := by decide) (he : starEach (e :: es) X.env = (false, eval e X.env) :: starEach es X.env := by rfl) (hpl : (backTo pos (starEach es X.env)).any (·.1) = false := by rfl) :
    PE X (.Call (.Name x p) (e :: es) [] pos) (tCallC mk js sp t) := by
  refine ⟨fun pins s σ H Q I h => ?_⟩
  refine wpAny_Call_Name_kw (ld_glob I gx hm (PySem.W.callWith_K (h₀ := X.base) I.ok.mod.kin hk (thn (ha.run pos pins s σ H _ I h) ?_) he hpl) hdb)
  rintro us s1 ⟨vs, H1, I1, r, g, c', hg, hgc, q⟩
  refine ⟨I1.kIn, ?_⟩
  have hl : us.length = ps.length := by
    rw [← r.length]
    exact G.size _ _ _ _ _ q
  have hB := hb s1 us I1.kIn (by simpa using hl)
  rw [List.append_nil] at hB
  have C := cp I1.ok
  have hC : CellsAt (mk c').cl fr (js.map (slotAt σ)) s1.heap H1 := by
    rw [hcl c']
    exact cells_of I1 C
  have hO : ∀ y c, (mk c').cl.lookup y = some c → c ∉ frs X.stack := fun y c z => by
    rw [hcl c'] at z
    exact cell_out I1 (C.sub y c z) (hfn y)
  refine wpAny_call (codeAny_mono (G.go (mk c', g, js.map (slotAt σ)) X.A X.stack s1 H1 ⟨us, []⟩ us vs Q E0 ⟨hΓ c', hg, hgc, hC, hO⟩ hr I1.env0 hB r q) ?_)
  rintro (er | (_ | _ | _ | u)) s2 hq
  · exact hq.elim
  · exact hq.elim
  · exact hq.elim
  · exact hq.elim
  · exact I1.after hq
/-- g(..), g handed in -/
def tCallF (F : NF) (i : Nat) (ws : List (Option V)) (sp : Addr → List (Option V) → Sp) (t : TA) : TE := fun σ H Q => ∃ g, σ[i]? = some (some (.ref g)) ∧ H g = some (FnO g F) ∧ t σ H fun vs H1 => H1 g = some (FnO g F) ∧ H1 F.c = some (CodeO F.c F.qual) ∧ sp g ws vs H1 Q E0
theorem pe_callF {F : NF} {fr : List Str} {i : Nat} {ws : List (Option V)} {sp : Addr → List (Option V) → Sp} {j : Nat} (M : ∀ g, NOk X.prog X.w X.K X.mg X.base CX0 j g F ps fr (sp g)) (C : CellsAt F.cl fr ws X.s_0.heap X.H_0) (out : ∀ y c, F.cl.lookup y = some c → c ∉ X.fs) (hx : X.ex = []) (hr : Room k X.A) (hj : j ≤ k)
    (hN : X.N[i]? = some x) (hv : Vis X.env.scope x) (ha : PA X (e :: es) t)
    (hd : (x == ("__debug__" : Str)) = false := by decide) (hcd : (x == ("__classdict__" : Str)) = false := by decide) (he : starEach (e :: es) X.env = (false, eval e X.env) :: starEach es X.env := by rfl) (hpl : (backTo pos (starEach es X.env)).any (·.1) = false := by rfl) :
    PE X (.Call (.Name x p) (e :: es) [] pos) (tCallF F i ws sp t) := by
  refine ⟨fun pins s σ H Q I ⟨g, hs, hf, ht⟩ => ?_⟩
  refine wpAny_Call_Name_kw (thn ((pe_var (pos := p) hN hv hd hcd).run pins s σ H (fun v H1 => v = .ref g ∧ H1 = H) I ⟨.ref g, hs, rfl, rfl⟩) fun u s1 ⟨v, H1, I1, r1, ev, eH⟩ => ?_)
  subst ev
  rw [eH] at I1
  obtain rfl : u = Value.ref g := r1
  refine PySem.W.callWith_F (first := []) (fnAt_of I1 hf) (thn (ha.run pos pins s1 σ H _ I1 ht) fun us s2 ⟨vs, H2, I2, r, h1, hc, q⟩ => ⟨fnAt_of I2 h1, ?_⟩) he hpl
  show wpAny _ _ (call (.ref g) us) _ _ _
  refine wpAny_call (codeAny_mono ((M g).run X.A X.stack s2 H2 us vs ws Q E0 (hr.mono hj) I2.env0 h1 hc (C.later out (fun _ _ _ => by rw [hx]; simp) I2) r q) ?_)
  rintro (er | (_ | _ | _ | u)) s3 hq
  · exact hq.elim
  · exact hq.elim
  · exact hq.elim
  · exact hq.elim
  · exact I2.after hq
end
/-! ### a def whose code object is known -/
structure FunC (K : PySem.W.Frag) (x qual : Str) (st : Stmt) (f : Addr) (fd : FuncData) (c : Addr) : Prop where
  ex : ∃ (oc : Value) (od : Option Addr) (kV doc pm : Value) (an : Option Addr) (ct : Value) (osl : Array (Option Value)),
    fd = PySem.W.fnOf x qual (defArgs st) (defBody st) (defScope st) .none kV doc pm an (.ref c) ct ∧ K.lookup f = some ⟨oc, od, .func fd, osl⟩ ∧ PySem.W.codeIn K (.ref c) qual = true
  kp : PySem.W.keepIn K (.ref f) = true
section
variable {P : Program} {w : World} {K : PySem.W.Frag} {mg : Str → Option Value} {base : Heap} {x qual : Str} {st : Stmt} {f c : Addr} {fd : FuncData}
theorem FunC.fun (F : FunC K x qual st f fd c) : Fun K x qual st f fd := by
  obtain ⟨oc, od, kV, doc, pm, an, ct, osl, e, lk, hcd⟩ := F.ex
  exact ⟨⟨oc, od, kV, doc, pm, an, .ref c, ct, osl, e, lk, hcd⟩, F.kp⟩
theorem FunC.ok {N ps : List Str} {k : Nat} {sp : Sp} (F : FunC K x qual st f fd c) (S : FnScope N ps (defScope st)) (len : ∀ vs H Q E, sp vs H Q E → vs.length = ps.length)
    (hbody : ∀ (A : Around) (outer : List Env) (s : Shared) (H : Hp) (vs : List V) (Q : VK) (E : XK), Room k (A.deeper (envOfC qual (defScope st) s.heap.objs.size f (.ref c))) → sp vs H Q E →
      ∃ t, PSs (cxOf CX0 P w K mg base N qual (defScope st) f (.ref c) A outer s H E).nox (defBody st) t ∧ t { nx := fun _ H' => Q .non H', rt := Q } (start N vs) H) : FnOk P w K mg base CX0 (k + 1) f fd ps sp := by
  obtain ⟨oc, od, kV, doc, pm, an, ct, osl, rfl, lk, hcd⟩ := F.ex
  refine fn_of lk hcd S len fun A outer s H vs Q E hr hsp => ?_
  obtain ⟨t, h, q⟩ := hbody A outer s H vs Q E hr hsp
  exact ⟨t, h.nox, q⟩
end
end CLo

/-! A list's tail deleted: del xs[lo:]. -/
namespace WX
open PySem PySem.Spec PyProof.Rows L2
section
variable {prog : Program} {w : World} {A : Around} {E : Value → Shared → Prop} {s : Shared}
/-- where xs[lo:] begins -/
def cutAt (n : Nat) (lo : Int) : Nat := (max 0 (min (if lo < 0 then lo + n else lo) (n : Int))).toNat
theorem tail_go (p : Value × Nat → Bool) (a : Nat) : ∀ (xs : List Value) (i : Nat), (∀ x k, k < i + xs.length → p (x, k) = decide (a ≤ k)) → ((xs.zipIdx i).filterMap fun x => if p x = true then none else some x.1) = xs.take (a - i)
  | [], i, _ => by simp
  | x :: xs, i, h => by
    have h1 := h x i (by rw [List.length_cons]; omega)
    have ih := tail_go p a xs (i + 1) fun y k hk => h y k (by rw [List.length_cons]; omega)
    rw [List.zipIdx_cons, List.filterMap_cons]
    simp only [h1]
    by_cases c : a ≤ i
    · simp only [decide_eq_true c, if_true]
      rw [ih, show a - (i + 1) = 0 by omega, show a - i = 0 by omega, List.take_zero, List.take_zero]
    · simp only [decide_eq_false c, Bool.false_eq_true, if_false]
      rw [ih, show a - i = (a - (i + 1)) + 1 by omega, List.take_succ_cons]
theorem del_tail {l sl : Addr} {items : List Value} {n : Nat} {vl vu : Value} {lo : Int} {Q : Unit → Shared → Prop} (e : s.heap.get? l = some { cls := .type "list", data := .seq items.toArray n }) (hs : s.heap.IsSliceOf sl vl vu .none) (pl : IsPart vl (some lo)) (pu : IsPart vu none)
    (hsz : items.length ≤ sizeLine) (h : ∀ f : Array Value → Array Value, f items.toArray = (items.take (cutAt items.length lo)).toArray → Q () { s with heap := s.heap.update l (Obj.mapSeq f) }) :
    wpAny (model prog w) A (delItem (.ref l) (.ref sl)) Q E s := by
  have hl : s.heap.IsList l items.toArray := PySem.IsL.isList e
  obtain ⟨os, hos, hcs, hds⟩ := id hs
  have hTs : s.TypeIs (.ref sl) "slice" := ⟨os, hos, hcs⟩
  have hstep : ¬ ((rawPart none == rawInt 0) = true) := Bool.false_ne_true
  refine wpAny_delItem_slot hl.typeIs (by decide) F.slot_list_delitem (wpAny_call_entry F.slot_list_delitem hl.typeIs F.entry_list_delitem ?_ (F.args_list_delitem_2 _ _))
  show wpAny _ _ (Builtin.List.listSubscript? (.ref sl) >>= _) _ _ s
  apply wpAny_bind
  unfold Builtin.List.listSubscript?
  apply wpAny_bind
  refine wpAny_specialOf hTs slice_no_index ?_
  simp only [Option.isNone_none, if_true]
  apply wpAny_pure
  show wpAny _ _ (typeOf (.ref sl) >>= _) _ _ s
  apply wpAny_bind
  refine wpAny_typeOf hTs ?_
  rw [if_neg (by decide)]
  rw [listSliceParts_eq]
  refine wpAny_bind (wpAny_bind (wpAny_field hos hds (x := .none) rfl (wpAny_bind (wpAny_listPart .none ?_))))
  rw [if_neg hstep]
  refine wpAny_bind (wpAny_field hos hds (x := vl) rfl (wpAny_bind (wpAny_listPart pl ?_)))
  refine wpAny_bind (wpAny_field hos hds (x := vu) rfl (wpAny_bind (wpAny_listPart pu (wpAny_pure ?_))))
  apply wpAny_bind (m := Builtin.List.listItems (.ref l))
  unfold Builtin.List.listItems
  refine wpAny_bind (wpAny_seqItems e rfl (wpAny_pure ?_))
  apply wpAny_bind
  refine wpAny_of_eq (sliceIndices_raw (some lo) none none items.toArray.size (by simp)) ?_
  apply wpAny_bind
  apply wpAny_rule
  have cutE : (sliceBounds (some lo) none none items.toArray.size).1 = (cutAt items.length lo : Int) := by
    show max 0 (min (if lo < 0 then lo + (items.toArray.size : Int) else lo) (items.toArray.size : Int)) = _
    unfold cutAt
    rw [List.size_toArray]
    omega
  have stopE : (sliceBounds (some lo) none none items.toArray.size).2.1 = (items.length : Int) := by
    show (items.toArray.size : Int) = _
    rw [List.size_toArray]
  have key : ∀ p : Value × Nat → Bool, (∀ x k, k < items.length → p (x, k) = decide (cutAt items.length lo ≤ k)) → ((items.toArray.toList.zipIdx.filterMap fun x => if p x = true then none else some x.1).toArray : Array Value) = (items.take (cutAt items.length lo)).toArray := fun p hp => by
    rw [show items.toArray.toList = items from rfl, tail_go p (cutAt items.length lo) items 0 (fun x k hk => hp x k (by omega)), Nat.sub_zero]
  have out : ∀ (x : Value) (k : Nat), k < items.length → (if (1 : Int) > 0 then decide ((sliceBounds (some lo) none none items.toArray.size).1 ≤ (k : Int)) && decide ((k : Int) < (sliceBounds (some lo) none none items.toArray.size).2.1) && (((k : Int) - (sliceBounds (some lo) none none items.toArray.size).1) % 1 == 0) else false) = decide (cutAt items.length lo ≤ k) := fun x k hk => by
    rw [if_pos (by decide), cutE, stopE, Int.emod_one]
    have h1 : decide ((k : Int) < (items.length : Int)) = true := decide_eq_true (by omega)
    rw [h1, Bool.and_true]
    by_cases c : cutAt items.length lo ≤ k
    · rw [decide_eq_true (show (cutAt items.length lo : Int) ≤ (k : Int) by omega), decide_eq_true c]
      rfl
    · rw [decide_eq_false (show ¬ (cutAt items.length lo : Int) ≤ (k : Int) by omega), decide_eq_false c]
      rfl
  apply wpAny_bind
  show wpAny _ _ (updateSeq l _) _ _ s
  refine wpAny_updateSeq (hz := by rw [List.size_toArray]; exact hsz) (_hz' := ?z) e rfl ?_
  case z =>
    refine Nat.le_trans (Nat.le_of_eq (congrArg Array.size (key _ fun x k hk => out x k hk))) ?_
    rw [List.size_toArray, List.length_take]
    omega
  apply wpAny_bind
  refine wpAny_letGo ?_
  exact wpAny_pure ⟨.none, rfl, h _ (key _ fun x k hk => out x k hk)⟩
end
end WX

namespace WX
open PySem PySem.Spec PyProof.Rows L2
section
variable {X : Cx}
/-- del xs[lo:] -/
def tDelT (to : TE) (tl : TO) : TS := fun D σ H => to σ H fun x H1 => tl σ H1 fun lo H2 => ∃ (l : Addr) (xs : List V) (i : Int), x = .ref l ∧ lo = some i ∧ H2 l = some (.lst xs) ∧ D.nx σ (upd H2 l (.lst (xs.take (cutAt xs.length i))))
theorem vals_take {xs : List V} {us : List Value} (r : Vals xs us) (n : Nat) : Vals (xs.take n) (us.take n) := by
  induction r generalizing n with
  | nil => simp only [List.take_nil]; exact .nil
  | cons h _ ih =>
    cases n with
    | zero => simp only [List.take_zero]; exact .nil
    | succ n =>
      simp only [List.take_succ_cons]
      exact .cons h (ih n)
theorem ps_delT {o : Expr} {lo : Option Expr} {to : TE} {tl : TO} {p2 tpos pos : Pos} (ho : PE X o to) (hl : PO X lo tl) : PS X (.Delete [.Subscript o (.Slice lo none none p2) tpos] pos) (tDelT to tl) := by
  refine ⟨fun pins s σ H D I h => ?_⟩
  refine wpAny_Delete (wpAny_deleteEach_cons (wpAny_delete_Subscript (thn (ho.run pins s σ H _ I h) fun u s1 ⟨x, H1, I1, rx, q1⟩ => ?_)))
  refine wpAny_Slice (thn (hl.run pins s1 σ H1 _ I1 q1) fun vl s2 ⟨l, H2, I2, pl, q2⟩ => ?_)
  rw [evalPart_none]
  refine wpAny_pure ?_
  refine wpAny_pure ?_
  obtain ⟨a, xs, i, rfl, rfl, hH, q⟩ := q2
  cases (show u = Value.ref a from rx)
  have I4 : Inv X pins σ H2 { s2 with heap := s2.heap.push { cls := .type "slice", data := .fields #[vl, .none, .none] } } := I2.kept (t' := s2.toks) fun b ob q => Heap.get?_push_of_some _ q
  obtain ⟨z, its, n, r, hlen, e⟩ := I4.lstM hH
  refine del_tail e (Heap.IsSliceOf.new ..) pl .none (by omega) fun f hf => ?_
  refine wpAny_deleteEach_nil ⟨σ, _, I4.lset (its' := its.take (cutAt its.length i)) hH e hf (by rw [← hlen]; exact vals_take r _) ?_, q⟩
  rw [List.length_take]
  omega
end
end WX

set_option maxHeartbeats 1000000
namespace L41
open PySem PySem.Spec PyProof.Rows L2 GR WX TX RZ
/-- one field filled anew from the parts left -/
def refill1 (W : List Str) (f : Str) (d : PyData) (qs : List PyData) : PyData := if f = "extra" then .tuple (qs.take (items d).length) else if f ∈ W then qs.headD d else d
/-- how many parts a field takes -/
def takes (W : List Str) (f : Str) (d : PyData) : Nat := (pick1 W f d).length
def refill (W : List Str) : List Str → List PyData → List PyData → List PyData
  | f :: fs, d :: ds, qs => refill1 W f d qs :: refill W fs ds (qs.drop (takes W f d))
  | _, _, _ => []
theorem refill_take (W : List Str) : ∀ {fs : List Str} {ds : List PyData} (i : Nat) {f : Str} {d : PyData} (qs : List PyData), fs[i]? = some f → ds[i]? = some d →
    refill W (fs.take (i + 1)) (ds.take (i + 1)) qs = refill W (fs.take i) (ds.take i) qs ++ [refill1 W f d (qs.drop (pick W (fs.take i) (ds.take i)).length)]
  | f0 :: fs, d0 :: ds, 0, f, d, qs, hf, hd => by
    cases hf
    cases hd
    simp only [List.take_succ_cons, List.take_zero, refill, pick, List.length_nil, List.drop_zero, List.nil_append]
  | f0 :: fs, d0 :: ds, i + 1, f, d, qs, hf, hd => by
    rw [List.getElem?_cons_succ] at hf hd
    have := refill_take W i (qs.drop (takes W f0 d0)) hf hd
    have e : pick W (f0 :: fs.take i) (d0 :: ds.take i) = pick1 W f0 d0 ++ pick W (fs.take i) (ds.take i) := rfl
    rw [List.take_succ_cons, List.take_succ_cons, refill, this, List.take_succ_cons, List.take_succ_cons, refill, e, List.length_append, ← List.drop_drop]
    rfl
  | [], _, _, _, _, _, hf, _ => by simp at hf
  | _ :: _, [], _, _, _, _, _, hd => by simp at hd
theorem dpAll_drop {K : PySem.W.Frag} {H : Hp} : ∀ {vs : List V} {ds : List PyData} (n : Nat), DpAll K H vs ds → DpAll K H (vs.drop n) (ds.drop n)
  | _, _, 0, h => by
    rw [List.drop_zero, List.drop_zero]
    exact h
  | _, _, n + 1, .cons _ h => by
    rw [List.drop_succ_cons, List.drop_succ_cons]
    exact dpAll_drop n h
  | _, _, n + 1, .nil => by
    rw [List.drop_nil, List.drop_nil]
    exact .nil
theorem dpAll_take {K : PySem.W.Frag} {H : Hp} : ∀ {vs : List V} {ds : List PyData} (n : Nat), DpAll K H vs ds → DpAll K H (vs.take n) (ds.take n)
  | _, _, 0, h => by
    rw [List.take_zero, List.take_zero]
    exact .nil
  | _, _, n + 1, .cons g h => by
    rw [List.take_succ_cons, List.take_succ_cons]
    exact .cons g (dpAll_take n h)
  | _, _, n + 1, .nil => by
    rw [List.take_nil, List.take_nil]
    exact .nil
theorem flatDs_drop {ds : List PyData} (i : Nat) (h : flatDs ds = true) : flatDs (ds.drop i) = true := by
  induction ds generalizing i with
  | nil =>
    rw [List.drop_nil]
    exact h
  | cons d ds ih =>
    cases i with
    | zero => exact h
    | succ i =>
      rw [flatDs, Bool.and_eq_true] at h
      rw [List.drop_succ_cons]
      exact ih i h.2
theorem flat_refill1 {W : List Str} {f : Str} {d : PyData} {qs : List PyData} (hd : flatD d = true) (hq : flatDs qs = true) : flatD (refill1 W f d qs) = true := by
  unfold refill1
  split
  · rw [flatD]
    exact flatDs_take _ hq
  · split
    · cases qs with
      | nil => exact hd
      | cons q qs =>
        rw [flatDs, Bool.and_eq_true] at hq
        exact hq.1
    · exact hd
theorem flat_refill {W : List Str} : ∀ {fs : List Str} {ds qs : List PyData}, flatDs ds = true → flatDs qs = true → flatDs (refill W fs ds qs) = true
  | f :: fs, d :: ds, qs, h, g => by
    rw [flatDs, Bool.and_eq_true] at h
    rw [refill, flatDs, flat_refill1 h.1 g, flat_refill h.2 (flatDs_drop _ g)]
    rfl
  | [], _, _, _, _ => by simp only [refill, flatDs]
  | _ :: _, [], _, _, _ => by simp only [refill, flatDs]
theorem cut_nat {xs : List V} {a b : Nat} (h1 : a ≤ b) (h2 : b ≤ xs.length) : cutV xs (some (a : Int)) (some (b : Int)) = (xs.drop a).take (b - a) := by
  unfold cutV
  rw [HT.sIx_nat, HT.sIx_nat, show min a xs.length = a by omega, show min b xs.length = b by omega]
section
variable {P : Program} {w : World} {K : PySem.W.Frag} {mg : Str → Option Value} {base : Heap}
abbrev s_with_contained_of : Stmt := topS 6
theorem sc_with_contained_of : FnScope ["expression", "wanted", "parts", "found", "used", "kind", "part"] ["expression", "wanted", "parts"] (defScope s_with_contained_of) := ⟨rfl, rfl, rfl, by decide +kernel, rfl, by decide +kernel, by decide +kernel⟩
def sp_with (K : PySem.W.Frag) : Sp := fun vs H Q _ => ∃ (a wA pA : Addr) (wd : Str) (fs W : List Str) (rest ps : List PyData) (ups : List V), vs = [.ref a, .ref wA, .ref pA] ∧ SqT K H wA (W.map V.str) ∧ Dp K H (.ref a) (.tuple (.str wd :: rest)) ∧ (wd, fs) ∈ table ∧ Fits fs rest ∧ flatDs rest = true ∧ SqL K H pA ups ∧ DpAll K H ups ps ∧ flatDs ps = true ∧
  ps.length = (pick W fs rest).length ∧ ps.length ≤ 1000 ∧ ∀ H' p, Same H H' → Dp K H' (.ref p) (.tuple (.str wd :: refill W fs rest ps)) → Q (.ref p) H'
theorem ok_with {f fA : Addr} {fd : FuncData} {k : Nat} (F : Fun K "with_contained_of" "with_contained_of" s_with_contained_of f fd) (mFIELDS : mg "FIELDS" = some (.ref fA)) (T : Flds K w fA) (mzip : mg "zip" = none) (mtuple : mg "tuple" = none) (mlen : mg "len" = none) :
    FnOk P w K mg base CX0 (k + 1) f fd ["expression", "wanted", "parts"] (sp_with K) := by
  have nd := sc_with_contained_of.nd
  refine F.ok sc_with_contained_of (fun vs H Q E h => ?_) (fun cdv A outer s H vs Q E hr h => ?_)
  · obtain ⟨a, wA, pA, wd, fs, W, rest, ps, ups, rfl, _⟩ := h
    rfl
  obtain ⟨a, wA, pA, wd, fs, W, rest, ps, ups, rfl, hWt, hd, ht, hfit, hflat, hP, hPA, hPF, hlen, hl1000, q⟩ := h
  refine ⟨_, (pss_cons (ps_set (i := 3) nd rfl (.inl rfl) (pe_lst (pa_cons (pe_ix ix_tup (pv 0) pe_int (fun _ _ => rfl)) pa_nil)))
      (pss_cons (ps_set (i := 4) nd rfl (.inl rfl) pe_int)
      (pss_cons (ps_for PassesOwn.never rfl (pi_zipA (by rfl) mzip (pa_cons (pe_ix ix_kdict (pe_glob rfl mFIELDS (v := .ref fA) rfl) (pe_ix ix_tup (pv 0) pe_int (fun _ _ => rfl)) (fun _ _ => rfl)) (pa_cons (pe_slice L2.sl_tup (pv 0) (po_some pe_int) po_none) pa_nil))) (pg_tup rfl (pgs_cons (pg_name (i := 5) nd rfl (Or.inl rfl)) (pgs_cons (pg_name (i := 6) nd rfl (Or.inl rfl)) pgs_nil)))
      (pss_one (ps_if (pt_cmpR op_eq (pv 5) pe_str (nomark _))
        (pss_cons (ps_expr (pe_bm PySem.F.plainAttrs_list PySem.F.slot_list_append PySem.F.type_list_append mt_append (pv 3) (pa_cons (pe_callTy call_tuple_of (by rfl) mtuple boot_tuple (pa_cons (pe_slice sl_list (pv 2) (po_some (pv 4)) (po_some (pe_op op_add (pv 4) (pe_callB call_len_seq (by rfl) mlen PySem.boot_len (pa_cons (pv 6) pa_nil))))) pa_nil)) pa_nil)))
          (pss_one (ps_aug (i := 4) nd rfl (.inl rfl) (pe_callB call_len_seq (by rfl) mlen PySem.boot_len (pa_cons (pv 6) pa_nil)) ip_add)))
        (pss_one (ps_if (pt_cmpR op_in_seq (pv 5) (pv 1) (by rfl))
          (pss_cons (ps_expr (pe_bm PySem.F.plainAttrs_list PySem.F.slot_list_append PySem.F.type_list_append mt_append (pv 3) (pa_cons (pe_ix ix_list (pv 2) (pv 4) (fun _ _ => rfl)) pa_nil)))
            (pss_one (ps_aug (i := 4) nd rfl (.inl rfl) pe_int ip_add)))
          (pss_one (ps_expr (pe_bm PySem.F.plainAttrs_list PySem.F.slot_list_append PySem.F.type_list_append mt_append (pv 3) (pa_cons (pv 6) pa_nil)))))))))
      (pss_one (ps_ret (pe_callTy call_tuple_of (by rfl) mtuple boot_tuple (pa_cons (pv 3) pa_nil))))))), ?_⟩
  cases hd with
  | tup hS hA =>
  cases hA with
  | cons hw hA =>
  cases hw
  rename_i vs0
  obtain ⟨fp, hK, hF⟩ := T wd fs ht
  have hl0 := dpAll_len hA
  have lP := dpAll_len hPA
  refine ⟨.ref a, rfl, a, _, 0, .str wd, rfl, rfl, hS, at0, small_le (show 1 ≤ 1000 by decide), fun fo nfo => ?_⟩
  have sf := same_upd (o := .lst [.str wd]) nfo
  refine ⟨.ref a, rfl, a, _, 0, .str wd, rfl, rfl, (KeepT.of sf).seqt hS, at0, fA, wd, .ref fp, rfl, rfl, hK, .ref a, rfl, 1, rfl, a, _, rfl, (KeepT.of sf).seqt hS, ?_, fun c nc => ?_⟩
  · rw [List.length_cons]
    rintro ⟨e, _⟩
    have : HT.sIx (vs0.length + 1) 0 (some 1) = min 1 (vs0.length + 1) := HT.sIx_nat _ _ 1
    rw [this] at e
    omega
  have hcut : cutV (.str wd :: vs0) (some 1) none = vs0 := by
    unfold cutV
    rw [HT.sIx_none, show HT.sIx (V.str wd :: vs0).length 0 (some 1) = min 1 (V.str wd :: vs0).length from HT.sIx_nat _ _ 1, List.length_cons, show min 1 (vs0.length + 1) = 1 by omega, List.drop_succ_cons, List.drop_zero, show vs0.length + 1 - 1 = vs0.length by omega, List.take_length]
  rw [hcut]
  have sc := same_upd (o := .tup vs0) nc
  have hc1 : upd (upd H fo (.lst [.str wd])) c (.tup vs0) c = some (.tup vs0) := upd_same
  have hf1 := sc _ _ (show upd H fo (.lst [.str wd]) fo = _ from upd_same)
  have s2 := sf.trans sc
  revert hc1 hf1 s2
  generalize upd (upd H fo (.lst [.str wd])) c (.tup vs0) = H1
  intro hc1 hf1 s2
  have hl : (fs.map V.str).length = vs0.length := by rw [List.length_map, hfit.len, hl0]
  refine ⟨fp, c, fs.map V.str, vs0, rfl, .inr ⟨hF H1, .inl (.inl hc1), ?_⟩⟩
  refine for_zipT hl (fun i σ H' => ∃ (y4 y5 : Option V) (us : List V), σ = [some (.ref a), some (.ref wA), some (.ref pA), some (.ref fo), some (.int ((pick W (fs.take i) (rest.take i)).length : Int)), y4, y5] ∧ H' fo = some (.lst us) ∧ DpAll K H' us (.str wd :: refill W (fs.take i) (rest.take i) ps) ∧ us.length = i + 1 ∧ (∀ b o, b ≠ fo → H1 b = some o → H' b = some o)) ?_ ?_ ?_ ?_
  · refine ⟨none, none, [.str wd], rfl, hf1, ?_, rfl, fun b o _ e => e⟩
    simp only [List.take_zero, refill]
    exact .cons (.str wd) .nil
  · rintro i σ H' ⟨y4, y5, us, rfl, hu, hdp, hi, kk⟩
    exact ⟨hF H', .inl (.inl (kk _ _ (ne_of hc1 hf1 (fun z => by cases z)) hc1))⟩
  · rintro i x y t σ H' hx hy ⟨y4, y5, us, rfl, hu, hdp, hi, kk⟩ nt
    rw [List.getElem?_map] at hx
    obtain ⟨fi, hfi, rfl⟩ : ∃ fi, fs[i]? = some fi ∧ x = .str fi := by
      cases e : fs[i]? with
      | none =>
        rw [e] at hx
        cases hx
      | some fi =>
        rw [e] at hx
        cases hx
        exact ⟨fi, rfl, rfl⟩
    obtain ⟨di, hdi, hyd⟩ := dpAll_at hA hy
    have kH : Same H H' := fun b o e => kk b o (ne_of_none e nfo) (s2 _ _ e)
    have st := same_upd (o := .tup [.str fi, y]) nt
    have sH := kH.trans st
    have fdi := flatDs_at hflat hdi
    have hyd2 := dp_keep (KeepT.of sH) _ _ fdi hyd
    have hu2 := st _ _ hu
    have hrt := refill_take W i ps hfi hdi
    have hpt : pick W (fs.take (i + 1)) (rest.take (i + 1)) = pick W (fs.take i) (rest.take i) ++ pick1 W fi di := pick_take W i hfi hdi
    have hpl := pick_len W (fs := fs) (ds := rest) (i + 1)
    rw [hpt, List.length_append, ← hlen] at hpl
    have hil : i < 1000 ∨ True := .inr trivial
    generalize hused : (pick W (fs.take i) (rest.take i)).length = used at hrt hpt hpl ⊢
    have fus : flatDs (.str wd :: refill W (fs.take i) (rest.take i) ps) = true := by
      rw [flatDs, flat_refill (flatDs_take i hflat) hPF]
      rfl
    have fr1 : flatD (refill1 W fi di (ps.drop used)) = true := flat_refill1 fdi (flatDs_drop _ hPF)
    have hifs : i < fs.length := (List.getElem?_eq_some_iff.mp hfi).1
    have hfs6 : fs.length ≤ 6 := (show ∀ p, p ∈ table → p.2.length ≤ 6 by decide) (wd, fs) ht
    have turn : ∀ (Hx : Hp) (vn : V), Same H' Hx → Dp K Hx vn (refill1 W fi di (ps.drop used)) → ∃ (z4 z5 : Option V) (us' : List V), [some (.ref a), some (.ref wA), some (.ref pA), some (.ref fo), some (.int ((used + (pick1 W fi di).length : Nat) : Int)), some (.str fi), some y] = [some (.ref a), some (.ref wA), some (.ref pA), some (.ref fo), some (.int ((pick W (fs.take (i + 1)) (rest.take (i + 1))).length : Int)), z4, z5] ∧
        upd Hx fo (.lst (us ++ [vn])) fo = some (.lst us') ∧ DpAll K (upd Hx fo (.lst (us ++ [vn]))) us' (.str wd :: refill W (fs.take (i + 1)) (rest.take (i + 1)) ps) ∧ us'.length = i + 1 + 1 ∧ (∀ b o, b ≠ fo → H1 b = some o → upd Hx fo (.lst (us ++ [vn])) b = some o) := by
      intro Hx vn sx hv
      have k2 : KeepT Hx (upd Hx fo (.lst (us ++ [vn]))) := KeepT.lst (sx _ _ hu)
      refine ⟨some (.str fi), some y, us ++ [vn], ?_, upd_same, ?_, by rw [List.length_append, hi]; rfl, fun b o hb e => ?_⟩
      · rw [hpt, List.length_append, hused]
      · rw [hrt, ← List.cons_append]
        exact dpAll_append (dp_keepAll ((KeepT.of sx).trans k2) _ _ fus hdp) (.cons (dp_keep k2 _ _ fr1 hv) .nil)
      · rw [upd_ne hb]
        exact sx _ _ (kk b o hb e)
    refine ⟨t, [.str fi, y], rfl, .inl (.inl upd_same), rfl, _, _, rfl, _, _, rfl, rfl, ?_⟩
    refine ⟨.str fi, rfl, rfl, _, rfl, ite2 (fun e1 => ?_) (fun e1 => ?_)⟩
    · have e1 : fi = "extra" := by simpa using e1
      subst e1
      obtain ⟨xs, rfl⟩ := hfit.at' hfi hdi
      have hp1 : pick1 W "extra" (.tuple xs) = xs := by
        unfold pick1
        rw [if_pos rfl, items]
      have hr1 : refill1 W "extra" (.tuple xs) (ps.drop used) = .tuple ((ps.drop used).take xs.length) := by
        unfold refill1
        rw [if_pos rfl, items]
      rw [hp1] at hpl turn
      rw [hr1] at turn
      cases hyd2 with
      | tup hys hyA =>
      rename_i ya zs'
      have hz := dpAll_len hyA
      rw [← hz] at turn hpl
      have hcut2 : cutV ups (some (used : Int)) (some ((used : Int) + (zs'.length : Int))) = (ups.drop used).take zs'.length := by
        have := cut_nat (xs := ups) (a := used) (b := used + zs'.length) (by omega) (by omega)
        rw [show used + zs'.length - used = zs'.length by omega] at this
        exact this
      refine ⟨.ref fo, rfl, .inl ⟨rfl, _, .inl (.inl hu2)⟩, .ref pA, rfl, .int (used : Int), rfl, (used : Int), rfl, .int (used : Int), rfl, .ref ya, rfl, ya, zs', rfl, .inr hys, (used : Int), (zs'.length : Int), rfl, rfl, (used : Int) + (zs'.length : Int), rfl, pA, ups, rfl, sH.seq hP, fun p1 np1 => ?_⟩
      rw [hcut2]
      have sp1 := same_upd (o := .lst ((ups.drop used).take zs'.length)) np1
      refine ⟨p1, _, rfl, .inl ⟨.inl (.inl upd_same), fun p2 np2 => ?_⟩⟩
      have sp2 := same_upd (o := .tup ((ups.drop used).take zs'.length)) np2
      have s3 := st.trans (sp1.trans sp2)
      refine ⟨fo, _, _, rfl, rfl, s3 _ _ hu, small1000 (by omega), .int (used : Int), rfl, .ref ya, rfl, ya, zs', rfl, .inr ?_, (used : Int), (zs'.length : Int), rfl, rfl, ?_⟩
      · exact (((KeepT.of (sp1.trans sp2)).trans (KeepT.lst (s3 _ _ hu))).seqt hys)
      · have hdrop : DpAll K (upd (upd (upd H' t (.tup [.str "extra", .ref ya])) p1 (.lst ((ups.drop used).take zs'.length))) p2 (.tup ((ups.drop used).take zs'.length))) ((ups.drop used).take zs'.length) ((ps.drop used).take zs'.length) :=
          dp_keepAll ((KeepT.of sH).trans (KeepT.of (sp1.trans sp2))) _ _ (flatDs_take _ (flatDs_drop _ hPF)) (dpAll_take _ (dpAll_drop _ hPA))
        exact turn _ (.ref p2) s3 (.tup (.inl (.inl upd_same)) hdrop)
    · have e1 : fi ≠ "extra" := fun z => e1 (by simpa using z)
      refine ⟨.str fi, rfl, .ref wA, rfl, wA, W.map V.str, rfl, .inr ((KeepT.of sH).seqt hWt), rfl, flat_strs W, _, rfl, ?_⟩
      rw [wanted_in]
      refine ite2 (fun e2 => ?_) (fun e2 => ?_)
      · have e2 : fi ∈ W := by simpa using e2
        have hp1 : pick1 W fi di = [di] := by
          unfold pick1
          rw [if_neg e1, if_pos e2]
        rw [hp1] at hpl turn
        have hlt : used < ups.length := by
          rw [lP]
          simp only [List.length_singleton] at hpl
          omega
        have hget : ups[used]? = some ups[used] := List.getElem?_eq_getElem hlt
        obtain ⟨dq, hdq, hvq⟩ := dpAll_at hPA hget
        have hr1 : refill1 W fi di (ps.drop used) = dq := by
          unfold refill1
          rw [if_neg e1, if_pos e2]
          have : ps.drop used = dq :: ps.drop (used + 1) := by
            obtain ⟨h1, h2⟩ := List.getElem?_eq_some_iff.mp hdq
            rw [List.drop_eq_getElem_cons h1, h2]
          rw [this]
          rfl
        rw [hr1] at turn
        refine ⟨.ref fo, rfl, .inl ⟨rfl, _, .inl (.inl hu2)⟩, .ref pA, rfl, .int (used : Int), rfl, pA, ups, (used : Int), ups[used], rfl, rfl, sH.seq hP, atI_nat hget, fo, _, _, rfl, rfl, hu2, small1000 (by omega), .int (used : Int), rfl, (used : Int), 1, rfl, rfl, ?_⟩
        exact turn _ ups[used] st (dp_keep (KeepT.of sH) _ _ (flatDs_at hPF hdq) hvq)
      · have e2 : fi ∉ W := fun z => e2 (by simpa using z)
        have hp1 : pick1 W fi di = [] := by
          unfold pick1
          rw [if_neg e1, if_neg e2]
        have hr1 : refill1 W fi di (ps.drop used) = di := by
          unfold refill1
          rw [if_neg e1, if_neg e2]
        rw [hp1, hr1] at turn
        refine ⟨.ref fo, rfl, .inl ⟨rfl, _, .inl (.inl hu2)⟩, y, rfl, fo, _, _, rfl, rfl, hu2, small1000 (by omega), ?_⟩
        exact turn _ y st hyd2
  · rintro σ H' ⟨y4, y5, us, rfl, hu, hdp, hi, kk⟩
    have e1 : fs.take (fs.map V.str).length = fs := by rw [List.length_map, List.take_length]
    have e2 : rest.take (fs.map V.str).length = rest := by rw [List.length_map, hfit.len, List.take_length]
    rw [e1, e2] at hdp
    refine ⟨.ref fo, rfl, fo, us, rfl, .inl ⟨.inl (.inl hu), fun t nt => ?_⟩⟩
    have st := same_upd (o := .tup us) nt
    have kH : Same H H' := fun b o e => kk b o (ne_of_none e nfo) (s2 _ _ e)
    refine q _ _ (kH.trans st) (.tup (.inl (.inl upd_same)) (dp_keepAll (KeepT.of st) _ _ ?_ hdp))
    rw [flatDs, flat_refill hflat hPF]
    rfl
end
end L41

set_option maxHeartbeats 1000000
namespace L41
open PySem PySem.Spec PyProof.Rows L2 GR WX TX RZ
/-- names that can be written -/
def NOks (zs : List Str) : Prop := ∀ z, z ∈ zs → PyData.strOk z = true
/-- what is contained, of the kinds W -/
def kidsW (W : List Str) : PyData → List PyData
  | .tuple (.str w :: rest) => pick W (fieldsOf w) rest
  | _ => []
theorem kidsW_of {W : List Str} {w : Str} {fs : List Str} {rest : List PyData} (ht : (w, fs) ∈ table) : kidsW W (.tuple (.str w :: rest)) = pick W fs rest := by
  show pick W (fieldsOf w) rest = _
  rw [show fieldsOf w = fs from fieldsOf_table (w, fs) ht]
theorem pick_subW {W : List Str} (hW : ∀ f, f ∈ W → f ∈ W2) : ∀ (fs : List Str) (ds : List PyData), (pick W fs ds).Sublist (pick W2 fs ds)
  | f :: fs, d :: ds => by
    simp only [pick]
    refine List.Sublist.append ?_ (pick_subW hW fs ds)
    by_cases h1 : f = "extra"
    · rw [if_pos h1, if_pos h1]
      exact List.Sublist.refl _
    · rw [if_neg h1, if_neg h1]
      by_cases h2 : f ∈ W
      · rw [if_pos h2, if_pos (hW f h2)]
        exact List.Sublist.refl _
      · rw [if_neg h2]
        exact List.nil_sublist _
  | [], _ => by simp only [pick]; exact List.Sublist.refl _
  | _ :: _, [] => by simp only [pick]; exact List.Sublist.refl _
theorem kidsW_sub {W : List Str} (hW : ∀ f, f ∈ W → f ∈ W2) (x : PyData) : (kidsW W x).Sublist (kids x) := by
  unfold kidsW kids
  split
  · exact pick_subW hW _ _
  · exact List.nil_sublist _
theorem Ex.kidsW {W : List Str} (hW : ∀ f, f ∈ W → f ∈ W2) {zs : List Str} {n : Nat} {x : PyData} (h : Ex zs (n + 1) x) : ∀ y, y ∈ kidsW W x → Ex zs n y := fun y hy => h.kids.1 y ((kidsW_sub hW x).subset hy)
def refillX (W : List Str) : PyData → List PyData → PyData
  | .tuple (.str w :: rest), qs => .tuple (.str w :: refill W (fieldsOf w) rest qs)
  | x, _ => x
/-- folding -/
def foldE (W : List Str) (mk : PyData → List PyData → PyData) : Nat → PyData → PyData
  | 0, x => x
  | n + 1, x => mk x ((kidsW W x).map (foldE W mk n))
section
variable {W : List Str} {mk : PyData → List PyData → PyData} (hW : ∀ f, f ∈ W → f ∈ W2)
include hW in
theorem foldE_stable {zs : List Str} : ∀ {m k : Nat} {x : PyData}, Ex zs m x → m ≤ k → foldE W mk k x = foldE W mk m x
  | 0, _, _, h, _ => by cases h
  | m + 1, 0, _, _, hk => by omega
  | m + 1, k + 1, x, h, hk => by
    have e : (kidsW W x).map (foldE W mk k) = (kidsW W x).map (foldE W mk m) := List.map_congr_left fun y hy => foldE_stable (h.kidsW hW y hy) (by omega : m ≤ k)
    simp only [foldE, e]
end
abbrev Task := PyData × Bool
section
variable (W : List Str) (mk : PyData → List PyData → PyData)
/-- the machine: tasks, the top first; what is done -/
def run (n : Nat) : List Task → List PyData → List PyData
  | [], ds => ds
  | (y, false) :: ts, ds => run n ts (ds ++ [foldE W mk n y])
  | (y, true) :: ts, ds => run n ts (ds.take (ds.length - (kidsW W y).length) ++ [mk y (ds.drop (ds.length - (kidsW W y).length))])
theorem run_false (n : Nat) : ∀ (l : List PyData) (ts : List Task) (ds : List PyData), run W mk n (l.map (fun y => (y, false)) ++ ts) ds = run W mk n ts (ds ++ l.map (foldE W mk n))
  | [], ts, ds => by simp
  | y :: l, ts, ds => by
    rw [List.map_cons, List.cons_append, run, run_false n l ts, List.map_cons, List.append_assoc]
    rfl
/-- the tasks can be done with so many done -/
def Can : List Task → Nat → Prop
  | [], _ => True
  | (_, false) :: ts, k => Can ts (k + 1)
  | (y, true) :: ts, k => (kidsW W y).length ≤ k ∧ Can ts (k - (kidsW W y).length + 1)
theorem can_false : ∀ (l : List PyData) (ts : List Task) (k : Nat), Can W (l.map (fun y => (y, false)) ++ ts) k ↔ Can W ts (k + l.length)
  | [], ts, k => by simp
  | y :: l, ts, k => by
    rw [List.map_cons, List.cons_append, Can, can_false l ts, List.length_cons]
    rw [show k + 1 + l.length = k + (l.length + 1) by omega]
end
def wgt (n : Nat) : Task → Nat
  | (y, false) => 2 * (flatP n y).length
  | (_, true) => 1
def wgtL (n : Nat) (ts : List Task) : Nat := (ts.map (wgt n)).sum
theorem wgtL_append (n : Nat) (a b : List Task) : wgtL n (a ++ b) = wgtL n a + wgtL n b := by
  unfold wgtL
  rw [List.map_append, List.sum_append]
theorem wgtL_false (n : Nat) : ∀ l : List PyData, wgtL n (l.map fun y => (y, false)) = 2 * szL n l
  | [] => rfl
  | y :: l => by
    have ih := wgtL_false n l
    rw [szL_cons]
    unfold wgtL at ih ⊢
    rw [List.map_cons, List.map_cons, List.sum_cons, ih, wgt]
    omega
theorem szL_perm {n : Nat} {a b : List PyData} (h : a.Perm b) : szL n a = szL n b := by
  unfold szL
  exact (h.map _).sum_nat
/-- a task as data -/
def taskD (t : Task) : PyData := .tuple [t.1, .bool t.2]
theorem flat_task {zs : List Str} {n : Nat} {t : Task} (h : Ex zs n t.1) : flatD (taskD t) = true := by
  unfold taskD
  simp only [flatD, flatDs, h.flat, Bool.and_self]
/-- one expression whose kids are done is done -/
theorem run_open {W : List Str} {mk : PyData → List PyData → PyData} (hW : ∀ f, f ∈ W → f ∈ W2) {zs : List Str} {n : Nat} {y : PyData} (h : Ex zs n y) (ts : List Task) (ds : List PyData) :
    run W mk n ((kidsW W y).map (fun z => (z, false)) ++ (y, true) :: ts) ds = run W mk n ((y, false) :: ts) ds := by
  cases n with
  | zero => cases h
  | succ n =>
  rw [run_false, run, run]
  have e : ((kidsW W y).map (foldE W mk (n + 1))).length = (kidsW W y).length := List.length_map ..
  rw [List.length_append, e, show ds.length + (kidsW W y).length - (kidsW W y).length = ds.length by omega, List.take_left, List.drop_left]
  have e2 : foldE W mk (n + 1) y = mk y ((kidsW W y).map (foldE W mk (n + 1))) := by
    have e3 : (kidsW W y).map (foldE W mk (n + 1)) = (kidsW W y).map (foldE W mk n) := List.map_congr_left fun z hz => foldE_stable hW (h.kidsW hW z hz) (Nat.le_succ n)
    rw [e3, foldE]
  rw [e2]
/-- what is made of flat things is flat -/
theorem flat_fold {W : List Str} {mk : PyData → List PyData → PyData} (hW : ∀ f, f ∈ W → f ∈ W2) {zs : List Str} (hmk : ∀ n y qs, Ex zs n y → flatDs qs = true → flatD (mk y qs) = true) : ∀ {n : Nat} {x : PyData}, Ex zs n x → flatD (foldE W mk n x) = true
  | 0, _, h => by cases h
  | n + 1, x, h => by
    rw [foldE]
    exact hmk (n + 1) x _ h (flatDs_of fun d hd => by
      obtain ⟨y, hy, rfl⟩ := List.mem_map.mp hd
      exact flat_fold hW hmk (h.kidsW hW y hy))
theorem dpAll_rev {K : PySem.W.Frag} {H : Hp} : ∀ {vs : List V} {ds : List PyData}, DpAll K H vs ds → DpAll K H vs.reverse ds.reverse
  | _, _, .nil => .nil
  | _, _, .cons h g => by
    rw [List.reverse_cons, List.reverse_cons]
    exact dpAll_append (dpAll_rev g) (.cons h .nil)
theorem tasks_le {zs : List Str} {n : Nat} : ∀ {ts : List Task}, (∀ t, t ∈ ts → Ex zs n t.1) → ts.length ≤ wgtL n ts
  | [], _ => Nat.zero_le _
  | (y, b) :: ts, h => by
    have ih := tasks_le fun t ht => h t (List.mem_cons_of_mem _ ht)
    have h1 := szL_kids (h _ List.mem_cons_self)
    have h2 : 1 ≤ wgt n (y, b) := by
      cases b
      · show 1 ≤ 2 * (flatP n y).length
        have : (flatP n y).length = szL n (kids y) + 1 := h1.symm
        omega
      · exact Nat.le_refl 1
    unfold wgtL at ih ⊢
    rw [List.map_cons, List.sum_cons, List.length_cons]
    omega
theorem flat_refillX {W : List Str} {zs : List Str} {n : Nat} {y : PyData} {qs : List PyData} (h : Ex zs n y) (hq : flatDs qs = true) : flatD (refillX W y qs) = true := by
  obtain ⟨wd, fs, rest, rfl, _, _⟩ := h.form
  have hf := h.flat
  rw [flatD, flatDs, Bool.and_eq_true] at hf
  show flatD (.tuple (.str wd :: refill W (fieldsOf wd) rest _)) = true
  rw [flatD, flatDs, flat_refill hf.2 hq]
  rfl
end L41

namespace L41
open PySem PySem.Spec PyProof.Rows L2 GR WX TX RZ NdefX CLo
/-- what the function that is handed in promises -/
def sp_made (K : PySem.W.Frag) (W : List Str) (mk : PyData → List PyData → PyData) (Cap : List (Option V) → Hp → Prop) (ws : List (Option V)) : Sp := fun vs H Q _ => Cap ws H ∧ ∃ (v : V) (p : Addr) (y : PyData) (zs : List Str) (n : Nat) (qs : List PyData) (ups : List V), vs = [v, .ref p] ∧ Dp K H v y ∧ Ex zs n y ∧ NOks zs ∧ SqL K H p ups ∧ DpAll K H ups qs ∧ flatDs qs = true ∧
  qs.length = (kidsW W y).length ∧ ∀ H' v', Same H H' → Dp K H' v' (mk y qs) → Q v' H'
/-- what a function handed in must be -/
structure MkOk (W : List Str) (mk : PyData → List PyData → PyData) (Cap : List (Option V) → Hp → Prop) : Prop where
  sub : ∀ f, f ∈ W → f ∈ W2
  flat : ∀ zs n y qs, Ex zs n y → flatDs qs = true → flatD (mk y qs) = true
  cap : ∀ ws H H', Same H H' → Cap ws H → Cap ws H'
def sp_folded (K : PySem.W.Frag) (W : List Str) (mk : PyData → List PyData → PyData) (Cap : List (Option V) → Hp → Prop) (i : CI) : Sp := fun vs H Q _ => ∃ (v : V) (wA : Addr) (x : PyData) (zs : List Str) (n : Nat), vs = [v, .ref wA, .ref i.2.1] ∧ Dp K H v x ∧ Ex zs n x ∧ NOks zs ∧ SqT K H wA (W.map V.str) ∧ Cap i.2.2 H ∧ (flatP n x).length ≤ 200000 ∧ ∀ H' v', Same H H' → Dp K H' v' (foldE W mk n x) → Q v' H'
abbrev s_folded : Stmt := topS 7
abbrev N_folded : List Str := ["expression", "wanted", "made", "done", "todo", "part", "is_ready", "inner", "start", "parts", "thing"]
theorem sc_folded : FnScope N_folded ["expression", "wanted", "made"] (defScope s_folded) := ⟨rfl, rfl, rfl, by decide +kernel, rfl, by decide +kernel, by decide +kernel⟩
theorem and_els {c b : Bool} {σ : L2.St} {A B : Prop} (h : (c && !b) = false) (hs : σ[6]? = some (some (V.bl b))) (x : B) : if c = true then (∃ v, σ[6]? = some (some v) ∧ ∃ d, v = V.bl d ∧ (if (!d) = true then A else B)) else (if false = true then A else B) := by
  cases c with
  | false => exact x
  | true =>
    refine ⟨_, hs, b, rfl, ?_⟩
    cases b with
    | true => exact x
    | false => cases h
theorem vis_made : Vis (defScope s_folded) "made" := Or.inl rfl
section
variable {P : Program} {w : World} {K : PySem.W.Frag} {mg : Str → Option Value} {base : Heap} {W : List Str} {mk : PyData → List PyData → PyData} {Cap : List (Option V) → Hp → Prop}
/-- before each turn -/
def KInv (K : PySem.W.Frag) (W : List Str) (mk : PyData → List PyData → PyData) (zs : List Str) (n : Nat) (x : PyData) (v : V) (wA g dn td : Addr) (H0 : Hp) (m : Nat) (σ : L2.St) (H : Hp) : Prop :=
  ∃ (z5 z6 z7 z8 z9 z10 : Option V) (us vs : List V) (ts : List Task) (ds : List PyData), σ = [some v, some (.ref wA), some (.ref g), some (.ref dn), some (.ref td), z5, z6, z7, z8, z9, z10] ∧ H dn = some (.lst vs) ∧ H td = some (.lst us) ∧ DpAll K H vs ds ∧ DpAll K H us (ts.map taskD) ∧ (∀ t, t ∈ ts → Ex zs n t.1) ∧ (∀ d, d ∈ ds → flatD d = true) ∧
    Can W ts.reverse ds.length ∧ run W mk n ts.reverse ds = [foldE W mk n x] ∧ m = wgtL n ts ∧ ds.length + m ≤ 4200000 ∧ (∀ b ob, b ≠ dn → b ≠ td → H0 b = some ob → H b = some ob)
theorem ok_folded {Γ : NF → Prop} {fr : List Str} {f fc : Addr} {fd fdc : FuncData} {j k : Nat} (F : Fun K "folded" "folded" s_folded f fd) (C : MkOk W mk Cap) (M : ∀ G, Γ G → ∀ g, NOk P w K mg base CX0 j g G ["part", "parts"] fr (sp_made K W mk Cap)) (hj : j ≤ k)
    (Gc : FnOk P w K mg base CX0 k fc fdc ["expression", "wanted"] (sp_contained_of K)) (gc : mg "contained_of" = some (.ref fc)) (Kc : PySem.W.keepIn K (.ref fc) = true) (bc : Binds K fdc ["expression", "wanted"] []) (mlen : mg "len" = none) :
    FnP P w K mg base (k + 1) f fd ["expression", "wanted", "made"] (preC Γ fr) (sp_folded K W mk Cap) := by
  have nd := sc_folded.nd
  refine ok_p F sc_folded (fun i vs H Q E h => ?_) (fun i cdv A outer s H vs Q E hpre _ hr h => ?_)
  · obtain ⟨v, wA, x, zs, n, rfl, _⟩ := h
    rfl
  obtain ⟨G, g, ws⟩ := i
  obtain ⟨hΓ, hgF, hgc, hgC, hgO⟩ := hpre
  obtain ⟨v, wA, x, zs, n, rfl, hd, he, hzs, hWt, hCap, hb, q⟩ := h
  refine ⟨_, (pss_cons (ps_set (i := 3) nd rfl (.inl rfl) (pe_lst pa_nil))
      (pss_cons (ps_set (i := 4) nd rfl (.inl rfl) (pe_lst (pa_cons (pe_tup (pa_cons (pv 0) (pa_cons pe_bl pa_nil))) pa_nil)))
      (pss_cons (ps_while PassesOwn.never (pt_truth (pv 4) (fun _ => rfl))
      (pss_cons (ps_asg (pe_bm0 PySem.F.plainAttrs_list PySem.F.slot_list_pop PySem.F.type_list_pop mt_pop (pv 4)) (pg_tup rfl (pgs_cons (pg_name (i := 5) nd rfl (Or.inl rfl)) (pgs_cons (pg_name (i := 6) nd rfl (Or.inl rfl)) pgs_nil))))
        (pss_cons (ps_set (i := 7) nd rfl (.inl rfl) (pe_call Gc hr (by rfl) gc Kc bc .nil pass0 (pa_cons (pv 5) (pa_cons (pv 1) pa_nil))))
        (pss_one (ps_if (PW.pt (pw_and (pt_truth (pv 7) (fun _ => rfl)) (pw_and1 (pt_not (pt_val (pv 6))))))
        (pss_cons (ps_expr (pe_bm PySem.F.plainAttrs_list PySem.F.slot_list_append PySem.F.type_list_append mt_append (pv 4) (pa_cons (pe_tup (pa_cons (pv 5) (pa_cons pe_bl pa_nil))) pa_nil)))
          (pss_one (ps_expr (pe_bm PySem.F.plainAttrs_list PySem.F.slot_list_extend PySem.F.type_list_extend mt_extend (pv 4) (pa_cons (pe_lc (own := [("thing", 10)]) rfl nd (pi_list (pe_revL (pv 7))) (blkOk_by (N := N_folded) (sc := defScope s_folded) (by decide +kernel)) (fun _ _ _ _ _ => (pg_name (i := 10) nd rfl (Or.inl rfl))) (fun _ _ _ _ _ => pts_nil) (fun _ _ _ _ _ => (pe_tup (pa_cons (pv 10) (pa_cons pe_bl pa_nil))))) pa_nil)))))
        (pss_cons (ps_set (i := 8) nd rfl (.inl rfl) (pe_op op_sub (pe_callB call_len_seq (by rfl) mlen PySem.boot_len (pa_cons (pv 3) pa_nil)) (pe_callB call_len_seq (by rfl) mlen PySem.boot_len (pa_cons (pv 7) pa_nil))))
          (pss_cons (ps_set (i := 9) nd rfl (.inl rfl) (pe_slice sl_list (pv 3) (po_some (pv 8)) po_none))
          (pss_cons (ps_delT (pv 3) (po_some (pv 8)))
          (pss_one (ps_expr (pe_bm PySem.F.plainAttrs_list PySem.F.slot_list_append PySem.F.type_list_append mt_append (pv 3) (pa_cons (pe_callF (i := 2) (sp := fun _ => sp_made K W mk Cap) (M G hΓ) hgC hgO rfl hr hj rfl vis_made (pa_cons (pv 5) (pa_cons (pv 9) pa_nil))) pa_nil))))))))))))
      (pss_one (ps_ret (pe_ix ix_list (pv 3) pe_int (fun _ _ => rfl))))))), ?_⟩
  refine ⟨Nat.zero_le _, fun dn ndn => ?_⟩
  have sd := same_upd (o := .lst []) ndn
  have hd0 : upd H dn (.lst []) dn = some (.lst []) := upd_same
  refine ⟨v, rfl, le2, fun tt ntt => ⟨small_le (show 1 ≤ 1000 by decide), fun td ntd => ?_⟩⟩
  have st := same_upd (o := .tup [v, .bl false]) ntt
  have sl := same_upd (o := .lst [.ref tt]) ntd
  have hdn := st _ _ hd0
  have hne : dn ≠ td := ne_of_none hdn ntd
  have nHtd : H td = none := sd.free (st.free ntd)
  have s3 := (sd.trans st).trans sl
  have hlenx := flatP_len he
  refine ⟨KInv K W mk zs n x v wA g dn td H, ⟨wgtL n [(x, false)], none, none, none, none, none, none, [.ref tt], [], [(x, false)], [], rfl, sl _ _ hdn, upd_same, .nil, .cons (.tup (.inl (.inl (sl _ _ upd_same))) (.cons (he.kept (KeepT.of s3) hd) (.cons (.bl false) .nil))) .nil, ?_, fun d hd => (nomatch hd), trivial, ?_, rfl, ?_, fun b ob _ _ e => s3 _ _ e⟩, ?_⟩
  · intro t ht
    rw [List.mem_singleton.mp ht]
    exact he
  · rfl
  · show 0 + (2 * (flatP n x).length + 0) ≤ _
    omega
  · rintro m σ H' ⟨z5, z6, z7, z8, z9, z10, us, vs, ts, ds, rfl, hvs, hus, hV, hU, hE, hF, hC, hR, rfl, hm, kk⟩
    have sH : Same H H' := fun b ob e => kk b ob (ne_of_none e ndn) (ne_of_none e nHtd) e
    have lU := dpAll_len hU
    rw [List.length_map] at lU
    have lV := dpAll_len hV
    have hle := tasks_le hE
    refine ⟨.ref td, rfl, !us.isEmpty, .inl ⟨us, .inl (.inl hus), rfl⟩, ?_⟩
    by_cases hts : ts = []
    · subst hts
      cases hU
      have hR : ds = [foldE W mk n x] := hR
      subst hR
      cases hV with
      | cons hv1 hv2 =>
      cases hv2
      rename_i v1
      exact iteF ⟨.ref dn, rfl, dn, _, 0, v1, rfl, rfl, .inl (.inl hvs), at0, q H' v1 sH hv1⟩
    · obtain ⟨ts', ⟨y, b⟩, rfl⟩ : ∃ ts' t, ts = ts' ++ [t] := ⟨ts.dropLast, ts.getLast hts, (List.dropLast_concat_getLast hts).symm⟩
      have hne' : us ≠ [] := by
        intro z
        rw [z, List.length_append] at lU
        cases lU
      have full : (!us.isEmpty) = true := by
        cases us with
        | nil => exact absurd rfl hne'
        | cons _ _ => rfl
      rw [full]
      obtain ⟨uy, d, xs', hsplit, huy, hU', hyd⟩ := dpAll_last hU hne'
      rw [List.map_append] at hsplit
      obtain ⟨h1, h2⟩ := List.append_inj' hsplit rfl
      have h2 : taskD (y, b) = d := (List.cons.inj h2).1
      subst h1
      subst h2
      have ey : Ex zs n y := hE (y, b) (List.mem_append_right _ (List.mem_singleton.mpr rfl))
      have hE' : ∀ t, t ∈ ts' → Ex zs n t.1 := fun t ht => hE t (List.mem_append_left _ ht)
      obtain ⟨n', rfl⟩ : ∃ n', n = n' + 1 := by
        cases n with
        | zero => cases ey
        | succ n' => exact ⟨n', rfl⟩
      have hrev : (ts' ++ [(y, b)]).reverse = (y, b) :: ts'.reverse := by
        rw [List.reverse_append]
        rfl
      rw [hrev] at hC hR
      have hw : wgtL (n' + 1) (ts' ++ [(y, b)]) = wgtL (n' + 1) ts' + wgt (n' + 1) (y, b) := by
        rw [wgtL_append]
        rfl
      have fts : flatDs (ts'.map taskD) = true := flatDs_of fun d hd => by
        obtain ⟨t, ht, rfl⟩ := List.mem_map.mp hd
        exact flat_task (hE' t ht)
      have fds : flatDs ds = true := flatDs_of hF
      refine iteT ⟨fun σ' H'' => ∃ m', m' < wgtL (n' + 1) (ts' ++ [(y, b)]) ∧ KInv K W mk zs (n' + 1) x v wA g dn td H m' σ' H'', fun σ' H'' h => h, ?_⟩
      unfold taskD at hyd
      cases hyd with
      | tup hS hB =>
      cases hB with
      | cons hv1 hB =>
      cases hB with
      | cons hv2 hB =>
      cases hB
      cases hv2
      rename_i tt2 v1
      have k1 : KeepT H' (upd H' td (.lst us.dropLast)) := KeepT.lst hus
      have hus1 : upd H' td (.lst us.dropLast) td = some (.lst us.dropLast) := upd_same
      have hvs1 : upd H' td (.lst us.dropLast) dn = some (.lst vs) := by
        rw [upd_ne hne]
        exact hvs
      have keep1 : ∀ c ob, c ≠ td → H' c = some ob → upd H' td (.lst us.dropLast) c = some ob := fun c ob hc e => by
        rw [upd_ne hc]
        exact e
      refine ⟨.ref td, rfl, .inl ⟨rfl, _, .inl (.inl hus)⟩, td, us, .ref tt2, rfl, rfl, hus, huy, tt2, [v1, .bl b], rfl, k1.seqt hS, rfl, _, _, rfl, _, _, rfl, rfl, ?_⟩
      have hU1 := dp_keepAll k1 _ _ fts hU'
      have hV1 := dp_keepAll k1 _ _ fds hV
      have hv11 := ey.kept k1 hv1
      have kH1 : KeepT H (upd H' td (.lst us.dropLast)) := (KeepT.of sH).trans k1
      have sH1 : Same H (upd H' td (.lst us.dropLast)) := fun c ob e => keep1 c ob (ne_of_none e nHtd) (sH c ob e)
      revert k1 hus1 hvs1 keep1 hU1 hV1 hv11 kH1 sH1
      generalize upd H' td (.lst us.dropLast) = H1
      intro k1 hus1 hvs1 keep1 hU1 hV1 hv11 kH1 sH1
      obtain ⟨wd, fs, rest, hform, hft, hff⟩ := ey.form
      have hkeq := kidsW_of (W := W) (rest := rest) hft
      rw [← hform] at hkeq
      have hksub := (kidsW_sub C.sub y).length_le
      have hkl := ey.kids.2
      have hfl := ey.flat
      rw [hform, flatD, flatDs, Bool.and_eq_true] at hfl
      have hv11' := hv11
      rw [hform] at hv11'
      obtain ⟨a1, ea1⟩ : ∃ a1, v1 = .ref a1 := by
        cases hv11'
        exact ⟨_, rfl⟩
      subst ea1
      refine ⟨.ref a1, rfl, .ref wA, rfl, a1, wA, wd, fs, W, rest, rfl, hv11', hft, hff, hfl.2, ?_, kH1.seqt hWt, fun H2 p us2 s2 np hp hu2 => ?_⟩
      · rw [← hkeq]
        omega
      rw [← hkeq] at hu2
      have hus2 := s2 _ _ hus1
      have hvs2 := s2 _ _ hvs1
      have k2 := KeepT.of s2
      have hy2 := ey.kept k2 hv11
      have l2 := dpAll_len hu2
      have hpd : p ≠ dn := (ne_of_none hvs1 np).symm
      have hpt : p ≠ td := (ne_of_none hus1 np).symm
      have keepH2 : ∀ c ob, c ≠ dn → c ≠ td → H c = some ob → H2 c = some ob := fun c ob h1 h2 e => s2 _ _ (keep1 _ _ h2 (kk _ _ h1 h2 e))
      have sH2 := sH1.trans s2
      have hsy := szL_kids ey
      have hfull : (!us2.isEmpty) = !(kidsW W y).isEmpty := by
        cases hu : us2 with
        | nil =>
          rw [hu] at l2
          rw [List.eq_nil_of_length_eq_zero l2.symm]
          rfl
        | cons a b =>
          rw [hu] at l2
          cases hk : kidsW W y with
          | nil =>
            rw [hk] at l2
            cases l2
          | cons _ _ => rfl
      refine ⟨.ref p, rfl, !us2.isEmpty, .inl ⟨us2, .inl (.inl hp), rfl⟩, ?_⟩
      cases hop : (!us2.isEmpty && !b) with
      | false =>
        refine and_els hop rfl ?_
        have hCR : (kidsW W y).length ≤ ds.length ∧ Can W ts'.reverse (ds.length - (kidsW W y).length + 1) ∧ run W mk (n' + 1) ts'.reverse (ds.take (ds.length - (kidsW W y).length) ++ [mk y (ds.drop (ds.length - (kidsW W y).length))]) = [foldE W mk (n' + 1) x] := by
          cases b with
          | true => exact ⟨hC.1, hC.2, hR⟩
          | false =>
            have hk0 : kidsW W y = [] := by
              rw [hfull] at hop
              cases hk : kidsW W y with
              | nil => rfl
              | cons _ _ =>
                rw [hk] at hop
                cases hop
            rw [run, foldE, hk0] at hR
            rw [hk0, List.length_nil, Nat.sub_zero, List.take_length, List.drop_length]
            exact ⟨Nat.zero_le _, hC, hR⟩
        obtain ⟨hk1, hC2, hR2⟩ := hCR
        have w1 : 1 ≤ wgt (n' + 1) (y, b) := by
          cases b
          · show 1 ≤ 2 * (flatP (n' + 1) y).length
            omega
          · exact Nat.le_refl 1
        have hstart : (vs.length : Int) - (us2.length : Int) = ((ds.length - (kidsW W y).length : Nat) : Int) := by omega
        refine ⟨.ref dn, rfl, dn, vs, rfl, .inl (.inl (.inl hvs2)), .ref p, rfl, p, us2, rfl, .inl (.inl (.inl hp)), (vs.length : Int), (us2.length : Int), rfl, rfl, ?_⟩
        generalize hst : ds.length - (kidsW W y).length = sN at hC2 hR2 hstart
        have hcut : cutV vs (some (sN : Int)) none = vs.drop sN := by
          unfold cutV
          rw [HT.sIx_none, HT.sIx_nat, show min sN vs.length = sN by omega]
          exact List.take_of_length_le (by rw [List.length_drop]; exact Nat.le_refl _)
        refine ⟨.ref dn, rfl, .int ((vs.length : Int) - (us2.length : Int)), rfl, (vs.length : Int) - (us2.length : Int), rfl, dn, vs, rfl, .inl (.inl hvs2), fun sl2 nsl => ?_⟩
        rw [hstart, hcut]
        have s3 := same_upd (o := .lst (vs.drop sN)) nsl
        have hvs3 := s3 _ _ hvs2
        have hus3 := s3 _ _ hus2
        have hsl3 : upd H2 sl2 (.lst (vs.drop sN)) sl2 = some (.lst (vs.drop sN)) := upd_same
        have sH3 := sH2.trans s3
        have hV3 := dp_keepAll (k2.trans (KeepT.of s3)) _ _ fds hV1
        have hU3 := dp_keepAll (k2.trans (KeepT.of s3)) _ _ fts hU1
        have hy3 := ey.kept (KeepT.of s3) hy2
        have nsd : sl2 ≠ dn := (ne_of_none hvs2 nsl).symm
        have nst : sl2 ≠ td := (ne_of_none hus2 nsl).symm
        have keep3 : ∀ c ob, c ≠ dn → c ≠ td → H c = some ob → upd H2 sl2 (.lst (vs.drop sN)) c = some ob := fun c ob h1 h2 e => s3 _ _ (keepH2 c ob h1 h2 e)
        revert hvs3 hus3 hsl3 sH3 hV3 hU3 hy3 keep3
        generalize upd H2 sl2 (.lst (vs.drop sN)) = H3
        intro hvs3 hus3 hsl3 sH3 hV3 hU3 hy3 keep3
        refine ⟨.ref dn, rfl, .int ((vs.length : Int) - (us2.length : Int)), rfl, (vs.length : Int) - (us2.length : Int), rfl, dn, vs, (vs.length : Int) - (us2.length : Int), rfl, rfl, hvs3, ?_⟩
        have hcutAt : cutAt vs.length (sN : Int) = sN := by
          unfold cutAt
          rw [if_neg (by omega)]
          omega
        rw [hstart, hcutAt]
        have k4 : KeepT H3 (upd H3 dn (.lst (vs.take sN))) := KeepT.lst hvs3
        have hd4 : upd H3 dn (.lst (vs.take sN)) dn = some (.lst (vs.take sN)) := upd_same
        have ht4 : upd H3 dn (.lst (vs.take sN)) td = some (.lst us.dropLast) := by
          rw [upd_ne hne.symm]
          exact hus3
        have hsl4 : upd H3 dn (.lst (vs.take sN)) sl2 = some (.lst (vs.drop sN)) := by
          rw [upd_ne nsd]
          exact hsl3
        have keep4 : ∀ c ob, c ≠ dn → c ≠ td → H c = some ob → upd H3 dn (.lst (vs.take sN)) c = some ob := fun c ob h1 h2 e => by
          rw [upd_ne h1]
          exact keep3 c ob h1 h2 e
        have sH4 : Same H (upd H3 dn (.lst (vs.take sN))) := fun c ob e => keep4 c ob (ne_of_none e ndn) (ne_of_none e nHtd) e
        have hV4 := dp_keepAll k4 _ _ fds hV3
        have hU4 := dp_keepAll k4 _ _ fts hU3
        have hy4 := ey.kept k4 hy3
        revert hd4 ht4 hsl4 keep4 sH4 hV4 hU4 hy4
        generalize upd H3 dn (.lst (vs.take sN)) = H4
        intro hd4 ht4 hsl4 keep4 sH4 hV4 hU4 hy4
        have fdrop := flatDs_drop sN fds
        refine ⟨.ref dn, rfl, .inl ⟨rfl, _, .inl (.inl hd4)⟩, g, rfl, sH4 _ _ hgF, .ref a1, rfl, .ref sl2, rfl, sH4 _ _ hgF, sH4 _ _ hgc, C.cap _ _ _ sH4 hCap, .ref a1, sl2, y, zs, n' + 1, ds.drop sN, vs.drop sN, rfl, hy4, ey, hzs, .inl (.inl hsl4), dpAll_drop _ hV4, fdrop, ?_, fun H5 r s5 hr5 => ?_⟩
        · rw [List.length_drop]
          omega
        have hd5 := s5 _ _ hd4
        have ht5 := s5 _ _ ht4
        have fr : flatD (mk y (ds.drop sN)) = true := C.flat _ _ _ _ ey fdrop
        have k6 : KeepT H5 (upd H5 dn (.lst (vs.take sN ++ [r]))) := KeepT.lst hd5
        have k56 := (KeepT.of s5).trans k6
        have ltk : (ds.take sN).length = sN := by
          rw [List.length_take]
          omega
        refine ⟨dn, _, _, rfl, rfl, hd5, ?_, wgtL (n' + 1) ts', by omega, _, _, _, _, _, _, us.dropLast, _, ts', ds.take sN ++ [mk y (ds.drop sN)], rfl, upd_same, ?_, ?_, dp_keepAll k56 _ _ fts hU4, hE', ?_, ?_, hR2, rfl, ?_, fun c ob h1 h2 e => ?_⟩
        · rw [List.length_take, sizeLine_eq]
          omega
        · rw [upd_ne hne.symm]
          exact ht5
        · exact dpAll_append (dp_keepAll k56 _ _ (flatDs_take _ fds) (dpAll_take _ hV4)) (.cons (dp_keep k6 _ _ fr hr5) .nil)
        · intro d hd
          rcases List.mem_append.mp hd with hd | hd
          · exact hF d (List.mem_of_mem_take hd)
          · rw [List.mem_singleton.mp hd]
            exact fr
        · rw [List.length_append, ltk]
          exact hC2
        · rw [List.length_append, ltk, List.length_singleton]
          omega
        · rw [upd_ne h1]
          exact s5 _ _ (keep4 c ob h1 h2 e)
      | true =>
        rw [Bool.and_eq_true, Bool.not_eq_true'] at hop
        obtain ⟨hop1, hop2⟩ := hop
        have hop2 : b = false := by
          cases b
          · rfl
          · cases hop2
        subst hop2
        rw [hop1]
        refine iteT ⟨.bl false, rfl, false, rfl, iteT ⟨.ref td, rfl, .inl ⟨rfl, _, .inl (.inl hus2)⟩, .ref a1, rfl, le2, fun t1 nt1 => ?_⟩⟩
        have s3 := same_upd (o := .tup [.ref a1, .bl true]) nt1
        have hus3 := s3 _ _ hus2
        have lUd : us.dropLast.length ≤ 4200000 := by
          rw [List.length_dropLast]
          omega
        refine ⟨td, _, _, rfl, rfl, hus3, by rw [sizeLine_eq]; omega, ?_⟩
        have k4 : KeepT (upd H2 t1 (.tup [.ref a1, .bl true])) (upd (upd H2 t1 (.tup [.ref a1, .bl true])) td (.lst (us.dropLast ++ [.ref t1]))) := KeepT.lst hus3
        have ht4 : upd (upd H2 t1 (.tup [.ref a1, .bl true])) td (.lst (us.dropLast ++ [.ref t1])) td = some (.lst (us.dropLast ++ [.ref t1])) := upd_same
        have hd4 : upd (upd H2 t1 (.tup [.ref a1, .bl true])) td (.lst (us.dropLast ++ [.ref t1])) dn = some (.lst vs) := by
          rw [upd_ne hne]
          exact s3 _ _ hvs2
        have hp4 : upd (upd H2 t1 (.tup [.ref a1, .bl true])) td (.lst (us.dropLast ++ [.ref t1])) p = some (.lst us2) := by
          rw [upd_ne hpt]
          exact s3 _ _ hp
        have keep4 : ∀ c ob, c ≠ dn → c ≠ td → H c = some ob → upd (upd H2 t1 (.tup [.ref a1, .bl true])) td (.lst (us.dropLast ++ [.ref t1])) c = some ob := fun c ob h1 h2 e => by
          rw [upd_ne h2]
          exact s3 _ _ (keepH2 c ob h1 h2 e)
        have fk : flatDs (kidsW W y) = true := flat_all (ey.kidsW C.sub)
        have fty : flatD (taskD (y, true)) = true := flat_task (t := (y, true)) ey
        have kk4 := (KeepT.of s3).trans k4
        have hty : Dp K (upd (upd H2 t1 (.tup [.ref a1, .bl true])) td (.lst (us.dropLast ++ [.ref t1]))) (.ref t1) (taskD (y, true)) :=
          dp_keep k4 _ _ fty (.tup (.inl (.inl upd_same)) (.cons (dp_keep (KeepT.of s3) _ _ ey.flat hy2) (.cons (.bl true) .nil)))
        have hU4 := dpAll_append (dp_keepAll (k2.trans kk4) _ _ fts hU1) (.cons hty .nil)
        have hV4 := dp_keepAll (k2.trans kk4) _ _ fds hV1
        have hK4 := dp_keepAll kk4 _ _ fk hu2
        revert ht4 hd4 hp4 keep4 hU4 hV4 hK4
        generalize upd (upd H2 t1 (.tup [.ref a1, .bl true])) td (.lst (us.dropLast ++ [.ref t1])) = H4
        intro ht4 hd4 hp4 keep4 hU4 hV4 hK4
        -- the kids, from the last to the first
        refine ⟨.ref td, rfl, .inl ⟨rfl, _, .inl (.inl ht4)⟩, .ref p, rfl, p, us2, rfl, .inl (.inl hp4), fun rv nrv => ⟨rv, rfl, ⟨us2.reverse, .inl (.inl upd_same)⟩, fun D nD => ?_⟩⟩
        have s5 := same_upd (o := .lst us2.reverse) nrv
        have hrv5 : upd H4 rv (.lst us2.reverse) rv = some (.lst us2.reverse) := upd_same
        revert s5 hrv5 nD
        generalize upd H4 rv (.lst us2.reverse) = H5
        intro nD s5 hrv5
        have hKr : DpAll K H5 us2.reverse (kidsW W y).reverse := dpAll_rev (dp_keepAll (KeepT.of s5) _ _ fk hK4)
        have fkr : flatDs (kidsW W y).reverse = true := flatDs_of fun d hd => (ey.kidsW C.sub d (List.mem_reverse.mp hd)).flat
        have ht5 := s5 _ _ ht4
        have hd5 := s5 _ _ hd4
        have hDt : td ≠ D := ne_of_none ht5 nD
        have hDd : dn ≠ D := ne_of_none hd5 nD
        have hrD : rv ≠ D := ne_of_none hrv5 nD
        refine walk_body (xs := us2.reverse) (fun i H' => ∃ acc, H' D = some (.lst acc) ∧ acc.length = i ∧ DpAll K H' acc (((kidsW W y).reverse.take i).map fun z => taskD (z, false)) ∧ Same H5 H') ?_ ?_ ?_ ?_
        · refine ⟨[], upd_same, rfl, ?_, same_upd nD⟩
          rw [List.take_zero]
          exact .nil
        · rintro i H6 _ ⟨acc, hD, hacc, hdp, s6⟩
          exact .inl (.inl (s6 _ _ hrv5))
        · rintro i u6 H6 hu6 ⟨acc, hD, hacc, hdp, s6⟩
          obtain ⟨dz, hdz, hvz⟩ := dpAll_at hKr hu6
          have ez := ey.kidsW C.sub dz (List.mem_reverse.mp (List.mem_of_getElem? hdz))
          have hi6 : i < us2.reverse.length := (List.getElem?_eq_some_iff.mp hu6).1
          rw [List.length_reverse] at hi6
          refine ⟨rfl, yes_then ⟨u6, rfl, le2, fun tn ntn => ?_⟩⟩
          have s7 := same_upd (o := .tup [u6, .bl false]) ntn
          have hD7 := s7 _ _ hD
          have k7 : KeepT (upd H6 tn (.tup [u6, .bl false])) (upd (upd H6 tn (.tup [u6, .bl false])) D (.lst (acc ++ [.ref tn]))) := KeepT.lst hD7
          have fpre : flatDs (((kidsW W y).reverse.take i).map fun z => taskD (z, false)) = true := flatDs_of fun d hd => by
            obtain ⟨z, hz, rfl⟩ := List.mem_map.mp hd
            exact flat_task (t := (z, false)) (ey.kidsW C.sub z (List.mem_reverse.mp (List.mem_of_mem_take hz)))
          refine ⟨acc, hD7, small1000 (by omega), acc ++ [.ref tn], upd_same, by rw [List.length_append, hacc]; rfl, ?_, fun c ob e => ?_⟩
          · rw [take_snoc hdz, List.map_append]
            refine dpAll_append (dp_keepAll ((KeepT.of s7).trans k7) _ _ fpre hdp) (.cons ?_ .nil)
            exact dp_keep k7 _ _ (flat_task (t := (dz, false)) ez) (.tup (.inl (.inl upd_same)) (.cons (ez.kept (KeepT.of (s6.trans s7)) hvz) (.cons (.bl false) .nil)))
          · rw [upd_ne (ne_of_none e nD)]
            exact s7 _ _ (s6 _ _ e)
        · rintro H6 ⟨acc, hD, hacc, hdp, s6⟩
          have lr : (kidsW W y).reverse.length = us2.reverse.length := by
            rw [List.length_reverse, List.length_reverse, l2]
          rw [← lr, List.take_length] at hdp
          rw [List.length_reverse] at hacc
          have ht6 := s6 _ _ ht5
          have hd6 := s6 _ _ hd5
          have k8 : KeepT H6 (upd H6 td (.lst (us.dropLast ++ [.ref t1] ++ acc))) := KeepT.lst ht6
          have k46 := (KeepT.of s5).trans ((KeepT.of s6).trans k8)
          have hmap : (ts' ++ [(y, true)] ++ (kidsW W y).reverse.map fun z => (z, false)).map taskD = ts'.map taskD ++ [taskD (y, true)] ++ (kidsW W y).reverse.map fun z => taskD (z, false) := by
            rw [List.map_append, List.map_append, List.map_map]
            rfl
          have fU4 : flatDs (ts'.map taskD ++ [taskD (y, true)]) = true := flatDs_append fts (by rw [flatDs, fty]; rfl)
          have fkt : flatDs ((kidsW W y).reverse.map fun z => taskD (z, false)) = true := flatDs_of fun d hd => by
            obtain ⟨z, hz, rfl⟩ := List.mem_map.mp hd
            exact flat_task (t := (z, false)) (ey.kidsW C.sub z (List.mem_reverse.mp hz))
          have hrev2 : (ts' ++ [(y, true)] ++ (kidsW W y).reverse.map fun z => (z, false)).reverse = (kidsW W y).map (fun z => (z, false)) ++ (y, true) :: ts'.reverse := by
            rw [List.reverse_append, List.reverse_append, ← List.map_reverse, List.reverse_reverse]
            rfl
          have hszr : szL (n' + 1) (kidsW W y).reverse = szL (n' + 1) (kidsW W y) := szL_perm (List.reverse_perm _)
          have hsub := szL_sub (n := n' + 1) (kidsW_sub C.sub y)
          have hwn : wgtL (n' + 1) (ts' ++ [(y, true)] ++ (kidsW W y).reverse.map fun z => (z, false)) = wgtL (n' + 1) ts' + 1 + 2 * szL (n' + 1) (kidsW W y) := by
            rw [wgtL_append, wgtL_append, wgtL_false, hszr]
            rfl
          have hwy : wgt (n' + 1) (y, false) = 2 * (flatP (n' + 1) y).length := rfl
          refine ⟨td, D, us.dropLast ++ [.ref t1], acc, rfl, rfl, ht6, hD, ?_, wgtL (n' + 1) (ts' ++ [(y, true)] ++ (kidsW W y).reverse.map fun z => (z, false)), by omega, _, _, _, _, _, _, us.dropLast ++ [.ref t1] ++ acc, vs, ts' ++ [(y, true)] ++ (kidsW W y).reverse.map fun z => (z, false), ds, rfl, ?_, upd_same, ?_, ?_, ?_, hF, ?_, ?_, rfl, by omega, fun c ob h1 h2 e => ?_⟩
          · rw [List.length_append, List.length_singleton, sizeLine_eq]
            omega
          · rw [upd_ne hne]
            exact hd6
          · exact dp_keepAll k46 _ _ fds hV4
          · rw [hmap]
            exact dpAll_append (dp_keepAll k46 _ _ fU4 hU4) (dp_keepAll k8 _ _ fkt hdp)
          · intro t ht
            rcases List.mem_append.mp ht with ht | ht
            · rcases List.mem_append.mp ht with ht | ht
              · exact hE' t ht
              · rw [List.mem_singleton.mp ht]
                exact ey
            · obtain ⟨z, hz, rfl⟩ := List.mem_map.mp ht
              exact (ey.kidsW C.sub z (List.mem_reverse.mp hz)).mono (Nat.le_succ n')
          · rw [hrev2, can_false]
            refine ⟨Nat.le_add_left _ _, ?_⟩
            rw [show ds.length + (kidsW W y).length - (kidsW W y).length + 1 = ds.length + 1 by omega]
            exact hC
          · rw [hrev2, run_open C.sub ey]
            exact hR
          · rw [upd_ne h2]
            exact s6 _ _ (s5 _ _ (keep4 c ob h1 h2 e))
end
end L41

set_option maxHeartbeats 1000000
namespace L41
open PySem PySem.Spec PyProof.Rows L2 GR WX TX RZ NdefX CLo
/-- what is made of a part: a thing of its own, or the part with what was made of its parts -/
def mkG (W : List Str) (f : PyData → Option PyData) (y : PyData) (qs : List PyData) : PyData := match f y with
  | some o => o
  | none => if qs.isEmpty then y else refillX W y qs
theorem mkG_flat {W : List Str} {f : PyData → Option PyData} (hf : ∀ y o, flatD y = true → f y = some o → flatD o = true) (zs : List Str) (n : Nat) (y : PyData) (qs : List PyData) (h : Ex zs n y) (hq : flatDs qs = true) : flatD (mkG W f y qs) = true := by
  unfold mkG
  split
  · rename_i o e
    exact hf y o h.flat e
  · split
    · exact h.flat
    · exact flat_refillX h hq
def isMade (st : Stmt) (G : NF) : Prop := ∃ (q : Str) (cl : List (Str × Addr)) (c : Addr), G = NF.of st "made" q cl c
/-! ### keyed -/
def fK (o : PyData) (y : PyData) : Option PyData := if headW y = "key" then some o else none
def CapK (K : PySem.W.Frag) (o : PyData) (ws : List (Option V)) (H : Hp) : Prop := ∃ (vo : V) (wA : Addr), ws = [some vo, some (.ref wA)] ∧ Dp K H vo o ∧ SqT K H wA (W1.map V.str)
section
variable {P : Program} {w : World} {K : PySem.W.Frag} {mg : Str → Option Value} {base : Heap}
end
end L41

set_option maxHeartbeats 1000000
namespace L41
open PySem PySem.Spec PyProof.Rows L2 GR WX TX RZ NdefX CLo LamX
def keyW (o : PyData) (n : Nat) (x : PyData) : PyData := foldE W1 (mkG W1 (fK o)) n x
theorem KeepT.ext {H H' : Hp} (s : ExtN H H') : KeepT H H' := ⟨fun b xs e => s b _ e (fun _ z => by cases z), fun b o xs e => s b _ e (fun _ z => by cases z)⟩
abbrev mkOf (st : Stmt) (X : L2.Cx) : Addr → NF := NF.of st "made" (X.env.qual ++ "made") (cloFrom X.env.cells (C8.fnScope st).names [])
section
variable {P : Program} {w : World} {K : PySem.W.Frag} {mg : Str → Option Value} {base : Heap}
end
end L41

set_option maxHeartbeats 1000000
namespace L41
open PySem PySem.Spec PyProof.Rows L2 GR WX TX RZ NdefX CLo LamX
/-! ### with_variables -/
abbrev s_with_variables : Stmt := topS 12
abbrev N_wv : List Str := ["expression", "others", "made"]
theorem sc_with_variables : FnScope N_wv ["expression", "others"] (defScope s_with_variables) := ⟨rfl, rfl, rfl, by decide +kernel, rfl, by decide +kernel, by decide +kernel⟩
abbrev st_mV : Stmt := (defBody s_with_variables).getD 0 (.Pass ⟨0, 0, 0, 0⟩)
abbrev N_mV : List Str := ["part", "parts", "others"]
theorem ns_mV : NScope N_mV ["part", "parts"] ["others"] (C8.fnScope st_mV) := nscope_by (by decide +kernel)
def letD (q : Int) : PyData := .tuple [.str "let", .int q]
def nameV : PyData → Str
  | .tuple [_, .str z] => z
  | _ => Str.empty
def fV (lz : Str → Option Int) (y : PyData) : Option PyData := if headW y = "var" then some (((lz (nameV y)).map letD).getD y) else none
/-- the dict at a tells lz -/
def LzAt (K : PySem.W.Frag) (H : Hp) (kvs : List (Key × V)) (lz : Str → Option Int) : Prop := ∀ z, (∃ q v, lz z = some q ∧ valV kvs (.inr z) = some v ∧ Dp K H v (letD q)) ∨ (lz z = none ∧ valV kvs (.inr z) = none)
theorem flat_letD (q : Int) : flatD (letD q) = true := rfl
theorem LzAt.keep {K : PySem.W.Frag} {H H' : Hp} {kvs : List (Key × V)} {lz : Str → Option Int} (k : KeepT H H') (h : LzAt K H kvs lz) : LzAt K H' kvs lz := fun z => (h z).elim (fun ⟨q, v, h1, h2, h3⟩ => .inl ⟨q, v, h1, h2, dp_keep k _ _ (flat_letD q) h3⟩) .inr
def CapV (K : PySem.W.Frag) (lz : Str → Option Int) (ws : List (Option V)) (H : Hp) : Prop := ∃ (a : Addr) (kvs : List (Key × V)), ws = [some (.ref a)] ∧ H a = some (.dK kvs) ∧ LzAt K H kvs lz
theorem mkOkV {K : PySem.W.Frag} {lz : Str → Option Int} : MkOk W2 (mkG W2 (fV lz)) (CapV K lz) := by
  refine ⟨fun _ h => h, fun zs n y qs h hq => mkG_flat (fun y o' hy e => ?_) zs n y qs h hq, fun ws H H' s h => ?_⟩
  · unfold fV at e
    split at e
    · cases e
      cases lz (nameV y) with
      | none => exact hy
      | some q => rfl
    · cases e
  · obtain ⟨a, kvs, rfl, h1, h2⟩ := h
    exact ⟨a, kvs, rfl, s _ _ h1, h2.keep (KeepT.of s)⟩
section
variable {P : Program} {w : World} {K : PySem.W.Frag} {mg : Str → Option Value} {base : Heap}
theorem nok_mV {lz : Str → Option Int} {fw : Addr} {fdw : FuncData} {k : Nat} (Gw : FnOk P w K mg base CX0 k fw fdw ["expression", "wanted", "parts"] (sp_with K)) (gw : mg "with_contained_of" = some (.ref fw)) (Kw : PySem.W.keepIn K (.ref fw) = true) (bw : Binds K fdw ["expression", "wanted", "parts"] [])
    {aP : Addr} (mALL : mg "ALL_PARTS" = some (.ref aP)) (TA : ∀ H, SqT K H aP (W2.map V.str)) : ∀ G, isMade st_mV G → ∀ g, NOk P w K mg base CX0 (k + 1) g G ["part", "parts"] ["others"] (sp_made K W2 (mkG W2 (fV lz)) (CapV K lz)) := by
  rintro G ⟨q, cl, c, rfl⟩ g
  refine nok_of (N := N_mV) ns_mV (fun _ _ _ us hl => match us, hl with | [_, _], _ => rfl) (fun ws vs H Q E h => ?_) (fun A outer s H vs ws Q E hr hf hc hl h => ?_)
  · obtain ⟨_, v, p, y, zs, n, qs, ups, rfl, _⟩ := h
    rfl
  obtain ⟨⟨da, kvs, rfl, hda, hlz⟩, v, p, y, zs, n, qs, ups, rfl, hd, he, hzs, hP, hPA, hPF, hlen, q⟩ := h
  have hu1 := hu_of hr
  refine ⟨_, (pss_cons (ps_if (pt_cmpR op_eq (pe_ix ix_tup (pv 0) pe_int (fun _ _ => rfl)) pe_str (nomark _))
        (pss_one (ps_ret (pe_dget2 hu1 (pv 2) (pe_ix ix_tup (pv 0) pe_int (fun _ _ => rfl)) (pv 0) ⟨by rfl, by rfl, by rfl, by rfl⟩)))
        pss_nil)
      (pss_one (ps_ret (pe_ifExp (pt_truth (pv 1) (fun _ => rfl)) (pe_call Gw hr (by rfl) gw Kw bw .nil pass0 (pa_cons (pv 0) (pa_cons (pe_glob rfl mALL (v := .ref aP) rfl) (pa_cons (pv 1) pa_nil)))) (pv 0))))), ?_⟩
  obtain ⟨wd, fs, rest, rfl, hft, hff⟩ := he.form
  have hfl := he.flat
  rw [flatD, flatDs, Bool.and_eq_true] at hfl
  have hk := kidsW_of (W := W2) (rest := rest) hft
  have hl6 : (kidsW W2 (.tuple (.str wd :: rest))).length ≤ 44 := by
    have h1 := (kidsW_sub (W := W2) (fun _ h => h) (.tuple (.str wd :: rest))).length_le
    cases n with
    | zero => cases he
    | succ n =>
      have h2 := he.kids.2
      omega
  have hd0 := hd
  cases hd with
  | tup hS hB =>
  cases hB with
  | cons hw hB =>
  cases hw
  rename_i a vs1
  refine ⟨.ref a, rfl, a, _, 0, .str wd, rfl, rfl, hS, at0, rfl, _, rfl, ite2 (fun e1 => ?_) (fun e1 => ?_)⟩
  · have e1 : wd = "var" := by simpa using e1
    subst e1
    obtain ⟨z, hz, rfl⟩ := he.var
    cases hB with
    | cons hz1 hB =>
    cases hB
    cases hz1
    have hmk : mkG W2 (fV lz) (.tuple [.str "var", .str z]) qs = ((lz z).map letD).getD (.tuple [.str "var", .str z]) := by
      unfold mkG fV
      rw [if_pos (show headW (.tuple [.str "var", .str z]) = "var" from rfl)]
      rfl
    rw [hmk] at q
    refine ⟨.ref da, rfl, da, rfl, .inl ⟨kvs, .inl hda⟩, .ref a, rfl, a, _, 1, .str z, rfl, rfl, hS, atI_nat (j := 1) rfl, .ref a, rfl, _, DGet.k (k := .inr z) hda, q H _ (fun _ _ e => e) ?_⟩
    rcases hlz z with ⟨q1, v1, h1, h2, h3⟩ | ⟨h1, h2⟩
    · rw [h1, h2]
      exact h3
    · rw [h1, h2]
      exact hd0
  have e1 : wd ≠ "var" := fun z => e1 (by simpa using z)
  have hmk : mkG W2 (fV lz) (.tuple (.str wd :: rest)) qs = if qs.isEmpty then .tuple (.str wd :: rest) else refillX W2 (.tuple (.str wd :: rest)) qs := by
    unfold mkG fV
    rw [if_neg (show ¬ headW (.tuple (.str wd :: rest)) = "var" from e1)]
  rw [hmk] at q
  have lP := dpAll_len hPA
  refine ⟨.ref p, rfl, !ups.isEmpty, .inl ⟨ups, hP, rfl⟩, ?_⟩
  cases hups : ups with
  | nil =>
    have hq0 : qs = [] := by
      rw [hups] at lP
      exact List.eq_nil_of_length_eq_zero lP.symm
    rw [hq0] at q
    exact iteF ⟨.ref a, rfl, q H _ (fun _ _ e => e) hd0⟩
  | cons u0 ur =>
    have hq0 : qs.isEmpty = false := by
      rw [hups] at lP
      cases qs with
      | nil => cases lP
      | cons _ _ => rfl
    rw [hq0] at q
    rw [← hups]
    have hup : (!ups.isEmpty) = true := by
      rw [hups]
      rfl
    rw [hup]
    refine iteT ⟨.ref a, rfl, .ref p, rfl, a, aP, p, wd, fs, W2, rest, qs, ups, rfl, TA H, hd0, hft, hff, hfl.2, hP, hPA, hPF, by rw [hlen, hk], by omega, fun H' r s hr' => q H' (.ref r) s ?_⟩
    have : refillX W2 (.tuple (.str wd :: rest)) qs = .tuple (.str wd :: refill W2 fs rest qs) := by
      show PyData.tuple (.str wd :: refill W2 (fieldsOf wd) rest qs) = _
      rw [show fieldsOf wd = fs from fieldsOf_table (wd, fs) hft]
    rw [this]
    exact hr'
def nmV : Nat → Nat → Str := fun _ _ => "with_variables.<locals>.made"
def varW (lz : Str → Option Int) (n : Nat) (x : PyData) : PyData := foldE W2 (mkG W2 (fV lz)) n x
def sp_wv (K : PySem.W.Frag) (T : List NTab) : Sp := fun vs H Q _ => ∃ (v : V) (da : Addr) (kvs : List (Key × V)) (lz : Str → Option Int) (x : PyData) (zs : List Str) (n : Nat), vs = [v, .ref da] ∧ Dp K H v x ∧ Ex zs n x ∧ NOks zs ∧ H da = some (.dK kvs) ∧ LzAt K H kvs lz ∧ (flatP n x).length ≤ 200000 ∧ TabsN T H ∧ ∀ H' v', ExtN H H' → TabsN T H' → Dp K H' v' (varW lz n x) → Q v' H'
theorem ok_with_variables {T : List NTab} {f ff c PT : Addr} {fd fdf : FuncData} {k : Nat} (F : FunC K "with_variables" "with_variables" s_with_variables f fd c) (TB : TabB base mg c PT) (hm : (PT, nmV) ∈ T) (hu : ∀ p ∈ T, p.1 = PT → p.2 = nmV)
    (Gf : ∀ lz, FnP P w K mg base k ff fdf ["expression", "wanted", "made"] (preC (isMade st_mV) ["others"]) (sp_folded K W2 (mkG W2 (fV lz)) (CapV K lz))) (gf : mg "folded" = some (.ref ff)) (Kf : PySem.W.keepIn K (.ref ff) = true) (bf : Binds K fdf ["expression", "wanted", "made"] [])
    {aP : Addr} (mALL : mg "ALL_PARTS" = some (.ref aP)) (TA : ∀ H, SqT K H aP (W2.map V.str)) :
    FnOk P w K mg base CX0 (k + 1) f fd ["expression", "others"] (sp_wv K T) := by
  have nd := sc_with_variables.nd
  refine F.ok sc_with_variables (fun vs H Q E h => ?_) (fun A outer s H vs Q E hr h => ?_)
  · obtain ⟨v, da, kvs, lz, x, zs, n, rfl, _⟩ := h
    rfl
  obtain ⟨v, da, kvs, lz, x, zs, n, rfl, hd, he, hzs, hda, hlz, hb, hT, q⟩ := h
  have hB : ndefB (defScope s_with_variables) (C8.fnScope st_mV) ["others"] = true := by decide +kernel
  refine ⟨_, (pss_cons (ps_ndefMS (st := st_mV) (T := T) (nm := nmV) (c := c) (P := PT) (name := "made") (i := 2) rfl TB rfl hm rfl hu (ndef_free hB) rfl rfl rfl nd rfl (.inl rfl) (.inl rfl))
      (pss_one (ps_ret (pe_callC (mk := mkOf st_mV (cxOf CX0 P w K mg base N_wv "with_variables" (defScope s_with_variables) f (.ref c) A outer s H E).nox) (js := [1]) (Gf lz) (fun c' => ⟨_, _, _, rfl⟩) (fun _ => rfl) (fun ok => Caps.made ok (ndef_free hB) (ndef_fr hB) rfl) (fun _ => rfl) hr (by rfl) gf Kf bf (pa_cons (pv 0) (pa_cons (pe_glob rfl mALL (v := .ref aP) rfl) (pa_cons (pv 2) pa_nil))))))), ?_⟩
  refine ⟨hT, fun g c' H2 x2 _ hT2 _ hg hc => ?_⟩
  have k2 : KeepT H H2 := KeepT.ext x2
  refine ⟨v, rfl, .ref g, rfl, g, c', hg, hc, v, aP, x, zs, n, rfl, he.kept k2 hd, he, hzs, TA H2, ⟨da, kvs, rfl, x2 _ _ hda (fun _ z => by cases z), hlz.keep k2⟩, hb, fun H3 v' s3 hr3 => q H3 v' ?_ ?_ hr3⟩
  · exact x2.trans (ExtN.of s3)
  · exact fun p hp => (hT2 p hp).ext s3
end
end L41

namespace L41
open PySem PySem.Spec PyProof.Rows L2 GR
/-! ### a log as data: marks, entries (position, statement) -/
abbrev Ent := Int × PyData
def ed (e : Ent) : PyData := .tuple [.int e.1, e.2]
def logD (ms : List Int) (es : List Ent) : PyData := .tuple [.tuple (ms.map PyData.int), .tuple (es.map ed)]
/-- a statement begins with its word -/
def Wo1 (x : PyData) : Prop := ∃ w r, x = .tuple (.str w :: r) ∧ (w = "let" → ∃ z e, r = [.str z, e])
/-- the log lies there -/
structure LgD (K : PySem.W.Frag) (H : Hp) (p : Addr) (ms : List Int) (es : List Ent) : Prop where
  dp : Dp K H (.ref p) (logD ms es)
  fl : flatDs (es.map (·.2)) = true
  wo : ∀ e, e ∈ es → Wo1 e.2
theorem take_next {α : Type} {l : List α} {j : Nat} {x : α} (h : l[j]? = some x) : l.take (j + 1) = l.take j ++ [x] := by
  rw [List.take_add_one, h]
  rfl
theorem drop_at {α : Type} {l : List α} {i : Nat} {x : α} (h : l[i]? = some x) : l.drop i = x :: l.drop (i + 1) := by
  obtain ⟨hi, e⟩ := List.getElem?_eq_some_iff.mp h
  rw [List.drop_eq_getElem_cons hi, e]
theorem ints_inv {K : PySem.W.Frag} {H : Hp} : ∀ {ms : List Int} {vs : List V}, DpAll K H vs (ms.map PyData.int) → vs = ms.map V.int
  | [], _, .nil => rfl
  | m :: ms, _, .cons h t => by
    cases h
    rw [ints_inv t]
    rfl
theorem flat_eds : ∀ {es : List Ent}, flatDs (es.map (·.2)) = true → flatDs (es.map ed) = true
  | [], _ => rfl
  | e :: es, h => by
    rw [List.map_cons, flatDs, Bool.and_eq_true] at h
    rw [List.map_cons, flatDs, flat_eds h.2, Bool.and_true]
    unfold ed
    simp only [flatD, flatDs, h.1, Bool.and_self]
theorem flat_ints : ∀ ms : List Int, flatDs (ms.map PyData.int) = true
  | [] => rfl
  | m :: ms => by rw [List.map_cons, flatDs, flat_ints ms]; rfl
theorem flat_log {ms : List Int} {es : List Ent} (h : flatDs (es.map (·.2)) = true) : flatD (logD ms es) = true := by
  unfold logD
  simp only [flatD, flatDs, flat_ints ms, flat_eds h, Bool.and_self]
theorem LgD.keep {K : PySem.W.Frag} {H H' : Hp} {p : Addr} {ms : List Int} {es : List Ent} (k : KeepT H H') (h : LgD K H p ms es) : LgD K H' p ms es := ⟨dp_keep k _ _ (flat_log h.fl) h.dp, h.fl, h.wo⟩
/-- its two tuples -/
theorem LgD.parts {K : PySem.W.Frag} {H : Hp} {p : Addr} {ms : List Int} {es : List Ent} (h : LgD K H p ms es) : ∃ (mp ep : Addr) (rs : List V), SqT K H p [.ref mp, .ref ep] ∧ SqT K H mp (ms.map V.int) ∧ SqT K H ep rs ∧ DpAll K H rs (es.map ed) := by
  have d := h.dp
  unfold logD at d
  cases d with
  | tup hS hA =>
  cases hA with
  | cons h1 hA =>
  cases hA with
  | cons h2 hA =>
  cases hA
  cases h1 with
  | @tup mp us _ hm hM =>
  cases h2 with
  | @tup ep rs _ he hE =>
  rw [ints_inv hM] at hm
  exact ⟨mp, ep, rs, hS, hm, he, hE⟩
theorem ent_at {K : PySem.W.Frag} {H : Hp} {rs : List V} {es : List Ent} {i : Nat} {v : V} (h : DpAll K H rs (es.map ed)) (hi : rs[i]? = some v) : ∃ e, es[i]? = some e ∧ ∃ (r : Addr) (u : V), v = .ref r ∧ SqT K H r [.int e.1, u] ∧ Dp K H u e.2 := by
  obtain ⟨d, h1, h2⟩ := dpAll_at h hi
  rw [List.getElem?_map] at h1
  obtain ⟨e, he, rfl⟩ := Option.map_eq_some_iff.mp h1
  refine ⟨e, he, ?_⟩
  unfold ed at h2
  cases h2 with
  | tup hS hA =>
  cases hA with
  | cons g1 hA =>
  cases g1
  cases hA with
  | cons g2 hA =>
  cases hA
  exact ⟨_, _, rfl, hS, g2⟩
/-! ### lets -/
def letsOf (lo hi : Int) : List Ent → List (Key × V)
  | [] => []
  | e :: es => if lo ≤ e.1 ∧ e.1 < hi then (match letNm e.2 with
    | some z => (.inr z, .int e.1) :: letsOf lo hi es
    | none => letsOf lo hi es) else letsOf lo hi es
theorem letNm_head {x : PyData} {z : Str} (h : letNm x = some z) : isLet x = true := by
  unfold letNm at h
  split at h
  · rename_i w z' r
    split at h
    · rename_i hw
      exact isLet_t hw
    · cases h
  · cases h
theorem word_lets {K : PySem.W.Frag} {H : Hp} {v : V} {x : PyData} (hx : Wo1 x) (h : Dp K H v x) : ∃ (p : Addr) (w : Str) (vs : List V), v = .ref p ∧ SqT K H p (.str w :: vs) ∧ ((w = "let" ∧ ∃ z us, vs = .str z :: us ∧ letNm x = some z) ∨ (w ≠ "let" ∧ letNm x = none)) := by
  obtain ⟨w, r, rfl, hl⟩ := hx
  cases h with
  | tup hS hA =>
  cases hA with
  | @cons v1 vs1 d1 ds1 g1 hA =>
  cases g1
  refine ⟨_, w, vs1, rfl, hS, ?_⟩
  by_cases e : w = "let"
  · obtain ⟨z, u, rfl⟩ := hl e
    cases hA with
    | cons g2 hA =>
    cases g2
    exact .inl ⟨e, z, _, rfl, if_pos e⟩
  · exact .inr ⟨e, letNm_no e⟩
theorem lets_append (lo hi : Int) : ∀ (a b : List Ent), letsOf lo hi (a ++ b) = letsOf lo hi a ++ letsOf lo hi b
  | [], b => rfl
  | e :: a, b => by
    rw [List.cons_append, letsOf, letsOf, lets_append lo hi a b]
    split
    · split <;> rfl
    · rfl
theorem lets_len (lo hi : Int) : ∀ (a : List Ent), (letsOf lo hi a).length ≤ a.length
  | [] => Nat.le_refl _
  | e :: a => by
    have := lets_len lo hi a
    rw [letsOf, List.length_cons]
    split
    · split
      · rw [List.length_cons]; omega
      · omega
    · omega
theorem merge_snoc (l : List (Key × V)) (x : Key × V) : mergeK [] (l ++ [x]) = putK (mergeK [] l) x.1 x.2 := by
  unfold mergeK
  rw [List.foldl_append]
  rfl
theorem merge_len (l : List (Key × V)) : (mergeK [] l).length ≤ l.length := by
  have := length_mergeK l []
  simpa using this
/-- before the entry at i there is no other up to its place -/
theorem lets_cut {lo hi : Int} {es : List Ent} (ha : (es.map (·.1)).Pairwise (· < ·)) {i : Nat} {e : Ent} (he : es[i]? = some e) (hhi : e.1 < hi) : letsOf lo e.1 es = letsOf lo hi (es.take i) := by
  have a1 : ∀ l : List Ent, (∀ x, x ∈ l → ¬ x.1 < e.1) → letsOf lo e.1 l = [] := fun l => by
    induction l with
    | nil => intro _; rfl
    | cons x l ih =>
      intro h
      rw [letsOf, if_neg (fun z => h x List.mem_cons_self z.2)]
      exact ih fun y hy => h y (List.mem_cons_of_mem _ hy)
  have a2 : ∀ l : List Ent, (∀ x, x ∈ l → x.1 < e.1) → letsOf lo e.1 l = letsOf lo hi l := fun l => by
    induction l with
    | nil => intro _; rfl
    | cons x l ih =>
      intro h
      have h1 := h x List.mem_cons_self
      rw [letsOf, letsOf, ih fun y hy => h y (List.mem_cons_of_mem _ hy)]
      by_cases c : lo ≤ x.1
      · rw [if_pos ⟨c, h1⟩, if_pos ⟨c, by omega⟩]
      · rw [if_neg (fun z => c z.1), if_neg (fun z => c z.1)]
  have hs : es = es.take i ++ es.drop i := (List.take_append_drop i es).symm
  have hd := drop_at he
  have ha' : ((es.take i).map (·.1) ++ (es.drop i).map (·.1)).Pairwise (· < ·) := by rw [← List.map_append, List.take_append_drop]; exact ha
  obtain ⟨_, p2, p3⟩ := List.pairwise_append.mp ha'
  rw [hd, List.map_cons] at p2 p3
  rw [show letsOf lo e.1 es = letsOf lo e.1 (es.take i ++ es.drop i) by rw [List.take_append_drop], lets_append, a2 (es.take i) fun x hx => ?_, a1 (es.drop i) fun x hx => ?_, List.append_nil]
  · rw [hd] at hx
    rcases List.mem_cons.mp hx with rfl | hx
    · omega
    · have := (List.pairwise_cons.mp p2).1 x.1 (List.mem_map_of_mem hx)
      omega
  · exact p3 x.1 (List.mem_map_of_mem hx) e.1 List.mem_cons_self

/-- the low mark of a position -/
def LowM (ms : List Int) (n lo : Int) : Prop := lo ∈ ms ∧ lo ≤ n ∧ ∀ m, m ∈ ms → m ≤ n → m ≤ lo
theorem filter_snoc {α : Type} {p : α → Bool} {l : List α} {i : Nat} {x : α} (h : l[i]? = some x) : (l.take (i + 1)).filter p = (l.take i).filter p ++ (if p x = true then [x] else []) := by
  rw [take_next h, List.filter_append]
  congr 1
  by_cases c : p x = true
  · rw [if_pos c, List.filter_cons, if_pos c, List.filter_nil]
  · rw [if_neg c, List.filter_cons, if_neg c, List.filter_nil]
theorem lets_one (lo hi : Int) (e : Ent) : letsOf lo hi [e] = if lo ≤ e.1 ∧ e.1 < hi then (match letNm e.2 with | some z => [(.inr z, .int e.1)] | none => []) else [] := by
  rw [letsOf, letsOf]
  all_goals (cases letNm e.2 <;> rfl)
section
variable {P : Program} {w : World} {K : PySem.W.Frag} {mg : Str → Option Value} {base : Heap}
abbrev s_start_of : Stmt := topS 15
abbrev N_sof : List Str := ["marks", "position", "mark"]
theorem sc_start_of : FnScope N_sof ["marks", "position"] (defScope s_start_of) := ⟨rfl, rfl, rfl, by decide +kernel, rfl, by decide +kernel, by decide +kernel⟩
def sp_sof (K : PySem.W.Frag) : Sp := fun vs H Q _ => ∃ (mp : Addr) (n lo : Int) (ms : List Int), vs = [.ref mp, .int n] ∧ SqT K H mp (ms.map V.int) ∧ LowM ms n lo ∧ ms.length ≤ 6 ∧ ∀ H', Same H H' → Q (.int lo) H'
theorem ok_start_of {f : Addr} {fd : FuncData} {k : Nat} (F : Fun K "start_of" "start_of" s_start_of f fd) (mmax : mg "max" = none) : FnOk P w K mg base CX0 (k + 1) f fd ["marks", "position"] (sp_sof K) := by
  have nd := sc_start_of.nd
  refine F.ok sc_start_of (fun vs H Q E h => ?_) (fun cdv A outer s H vs Q E hr h => ?_)
  · obtain ⟨mp, n, lo, ms, rfl, _⟩ := h
    rfl
  obtain ⟨mp, n, lo, ms, rfl, h2, hlo, hms, q⟩ := h
  refine ⟨_, (pss_one (ps_ret (pe_callBK (SC.cr_maxD rfl (hu_of hr)) (by rfl) mmax boot_max (pa_cons (pe_lc (own := [("mark", 2)]) (tt := tTest (tOp (rI0 fun i j => .bl (decide (i ≤ j))) (tVar 2) (tVar 1))) (te := tVar 2) rfl nd (pi_tup (pv 0)) (blkOk_by (N := N_sof) (sc := defScope s_start_of) (by decide +kernel)) (fun _ _ _ _ _ => (pg_name (i := 2) nd rfl (Or.inl rfl))) (fun _ _ _ _ _ => (pts_one (pt_cmpR op_le (pv 2) (pv 1) (nomark _)))) (fun _ _ _ _ _ => (pv 2))) pa_nil) (pk_cons pe_int pk_nil)))), ?_⟩
  refine ⟨.ref mp, rfl, mp, rfl, ⟨_, h2⟩, fun D nD => ?_⟩
  refine lc_tup (xs := ms.map V.int) (fun i H' => H' D = some (.lst (((ms.take i).filter fun m => decide (m ≤ n)).map V.int)) ∧ ∀ b o, b ≠ D → H b = some o → H' b = some o) ?_ ?_ ?_ ?_
  · exact ⟨upd_same, fun b o nb e => by rw [upd_ne nb]; exact e⟩
  · rintro i H' _ ⟨_, kp⟩
    exact (KeepT.of (show Same H H' from fun b o e => kp b o (ne_of_none e nD) e)).seqt h2
  · rintro i x H' hx ⟨hD, kp⟩
    rw [List.getElem?_map] at hx
    obtain ⟨m, hm, rfl⟩ := Option.map_eq_some_iff.mp hx
    refine ⟨rfl, .int m, rfl, .int n, rfl, m, n, rfl, rfl, _, rfl, ?_⟩
    rw [filter_snoc hm]
    by_cases c : m ≤ n
    · rw [decide_eq_true c, if_pos rfl]
      refine iteT ⟨.int m, rfl, _, hD, small1000 ?_, ?_, fun b o nb e => by rw [upd_ne nb]; exact kp b o nb e⟩
      · rw [List.length_map]
        exact Nat.le_trans (List.length_filter_le _ _) (by rw [List.length_take]; omega)
      · rw [List.map_append]
        exact upd_same
    · rw [decide_eq_false c, if_neg Bool.false_ne_true, List.append_nil]
      exact iteF ⟨hD, kp⟩
  · rintro H1 ⟨hD, kp⟩
    rw [List.length_map, List.take_length] at hD
    have sm1 : Same H H1 := fun b o e => kp b o (ne_of_none e nD) e
    refine ⟨D, _, .int 0, rfl, rfl, .inl (.inl hD), fun z => ?_, fun m hm hmax => ?_⟩
    · have : lo ∈ ms.filter fun m => decide (m ≤ n) := List.mem_filter.mpr ⟨hlo.1, decide_eq_true hlo.2.1⟩
      rw [z] at this
      exact nomatch this
    obtain ⟨hm1, hm2⟩ := List.mem_filter.mp hm
    obtain rfl : m = lo := by
      have a1 := hlo.2.2 m hm1 (of_decide_eq_true hm2)
      have a2 := hmax lo (List.mem_filter.mpr ⟨hlo.1, decide_eq_true hlo.2.1⟩)
      omega
    exact q H1 sm1
end
section
variable {P : Program} {w : World} {K : PySem.W.Frag} {mg : Str → Option Value} {base : Heap}
abbrev s_lets_at : Stmt := topS 16
abbrev N_lat : List Str := ["log", "position", "marks", "entries", "start", "place", "statement"]
theorem sc_lets_at : FnScope N_lat ["log", "position"] (defScope s_lets_at) := ⟨rfl, rfl, rfl, by decide +kernel, rfl, by decide +kernel, by decide +kernel⟩
def sp_lat (K : PySem.W.Frag) : Sp := fun vs H Q _ => ∃ (p : Addr) (n lo : Int) (ms : List Int) (es : List Ent), vs = [.ref p, .int n] ∧ LgD K H p ms es ∧ LowM ms n lo ∧ ms.length ≤ 6 ∧ es.length ≤ 30 ∧
  ∀ H' d, Same H H' → H d = none → H' d = some (.dK (mergeK [] (letsOf lo n es))) → Q (.ref d) H'
theorem ok_lets_at {f : Addr} {fd : FuncData} {k : Nat} (F : Fun K "lets_at" "lets_at" s_lets_at f fd) {f_s : Addr} {d_s : FuncData} (G : FnOk P w K mg base CX0 k f_s d_s ["marks", "position"] (sp_sof K)) (g : mg "start_of" = some (.ref f_s)) (Kf : PySem.W.keepIn K (.ref f_s) = true) (bf : Binds K d_s ["marks", "position"] []) : FnOk P w K mg base CX0 (k + 1) f fd ["log", "position"] (sp_lat K) := by
  have nd := sc_lets_at.nd
  refine F.ok sc_lets_at (fun vs H Q E h => ?_) (fun cdv A outer s H vs Q E hr h => ?_)
  · obtain ⟨p, n, lo, ms, es, rfl, _⟩ := h
    rfl
  obtain ⟨p, n, m, ms, es, rfl, hL, hlo, hms, hes, q⟩ := h
  obtain ⟨mp, ep, rs, h1, h2, h3, h4⟩ := hL.parts
  have fe := flat_eds hL.fl
  refine ⟨_, (pss_cons (ps_asg (pv 0) (pg_tup rfl (pgs_cons (pg_name (i := 2) nd rfl (Or.inl rfl)) (pgs_cons (pg_name (i := 3) nd rfl (Or.inl rfl)) pgs_nil))))
      (pss_cons (ps_set (i := 4) nd rfl (.inr rfl) (pe_call G hr (by rfl) g Kf bf .nil pass0 (pa_cons (pv 2) (pa_cons (pv 1) pa_nil))))
      (pss_one (ps_ret (pe_dc (own := [("place", 5), ("statement", 6)]) (g := gTup K 2 (gCons (gName 5) (gCons (gName 6) gNil))) (tt := tAnd (tTest (tChain (rI0 fun i j => .bl (decide (i ≤ j))) (rI0 fun i j => .bl (decide (i < j))) (tVar 4) (tVar 5) (tVar 1))) (tTest (tOp rEq (tOp (rIxT K) (tVar 6) (tC (.int 0))) (tC (.str "let")))))
          (tk := tOp (rIxT K) (tVar 6) (tC (.int 1))) (tv := tVar 5) rfl nd (pi_tup (pv 3)) (blkOk_by (N := N_lat) (sc := defScope s_lets_at) (by decide +kernel))
          (fun _ _ _ _ _ => (pg_tup rfl (pgs_cons (pg_name (i := 5) (x := "place") nd rfl (Or.inl rfl)) (pgs_cons (pg_name (i := 6) (x := "statement") nd rfl (Or.inl rfl)) pgs_nil))))
          (fun _ _ _ _ _ => pts_one (PW.pt (pw_and (pt_chain op_le op_lt (pv 4) (pv 5) (pv 1)) (pw_and1 (pt_cmpR op_eq (pe_ix ix_tup (pv 6) pe_int (fun _ _ => rfl)) pe_str (nomark _))))))
          (fun _ _ _ _ _ => (pe_ix ix_tup (pv 6) pe_int (fun _ _ => rfl))) (fun _ _ _ _ _ => (pv 5))))))), ?_⟩
  refine ⟨.ref p, rfl, p, _, rfl, h1, rfl, _, _, rfl, _, _, rfl, rfl, ?_⟩
  -- start
  refine ⟨.ref mp, rfl, .int n, rfl, mp, n, m, ms, rfl, h2, hlo, hms, fun H1 sm1 => ?_⟩
  have h31 := (KeepT.of sm1).seqt h3
  have h41 := dp_keepAll (KeepT.of sm1) _ _ fe h4
  refine ⟨.ref ep, rfl, ep, rfl, ⟨_, h31⟩, fun d nd2 => ?_⟩
  have ktd : ∀ {H' : Hp}, (∀ b o, b ≠ d → H1 b = some o → H' b = some o) → KeepT H1 H' := fun {H'} kp2 => ⟨fun b xs e => kp2 b _ (ne_of_none e nd2) e, fun b o xs e => kp2 b _ (ne_of_none e nd2) e⟩
  refine dc_tup (xs := rs) (fun i H' => H' d = some (.dK (mergeK [] (letsOf m n (es.take i)))) ∧ ∀ b o, b ≠ d → H1 b = some o → H' b = some o) ?_ ?_ ?_ ?_
  · exact ⟨upd_same, fun b o nb e => by rw [upd_ne nb]; exact e⟩
  · rintro i H' _ ⟨_, kp2⟩
    exact (ktd kp2).seqt h31
  · rintro i x H' hx ⟨hd, kp2⟩
    have kt2 := ktd kp2
    obtain ⟨e, he, r, u, rfl, h6, h7⟩ := ent_at (dp_keepAll kt2 _ _ fe h41) hx
    refine ⟨r, _, rfl, h6, rfl, _, _, rfl, _, _, rfl, rfl, rfl, ?_⟩
    have hls := lets_append m n (es.take i) [e]
    rw [← take_next he, lets_one] at hls
    refine ⟨.int m, rfl, .int e.1, rfl, m, e.1, rfl, rfl, _, rfl, ?_⟩
    have hlen : (mergeK [] (letsOf m n (es.take i))).length ≤ 30 := Nat.le_trans (merge_len _) (Nat.le_trans (lets_len _ _ _) (by rw [List.length_take]; omega))
    by_cases c1 : m ≤ e.1
    · rw [decide_eq_true c1]
      refine iteT ⟨.int n, rfl, e.1, n, rfl, rfl, _, rfl, ?_⟩
      by_cases c2 : e.1 < n
      · rw [decide_eq_true c2]
        rw [if_pos ⟨c1, c2⟩] at hls
        obtain ⟨p', wd, vs', rfl, hp2, hc⟩ := word_lets (hL.wo e (List.mem_of_getElem? he)) h7
        refine iteT ⟨.ref p', rfl, p', _, 0, .str wd, rfl, rfl, hp2, atI_nat (j := 0) rfl, rfl, _, rfl, ?_⟩
        rcases hc with ⟨rfl, z, us, rfl, hlz⟩ | ⟨hw, hlz⟩
        · rw [decide_eq_true rfl]
          rw [hlz] at hls
          refine iteT ⟨.ref p', rfl, p', _, 1, .str z, rfl, rfl, hp2, atI_nat (j := 1) rfl, .int e.1, rfl, _, .inr z, rfl, hd, small1000 (by omega), ?_, fun b o nb q' => by rw [upd_ne nb]; exact kp2 b o nb q'⟩
          rw [hls, merge_snoc]
          exact upd_same
        · rw [decide_eq_false (fun z => hw (by injection z))]
          rw [hlz, List.append_nil] at hls
          refine iteF ⟨?_, kp2⟩
          rw [hls]
          exact hd
      · rw [decide_eq_false c2]
        rw [if_neg (fun z => c2 z.2), List.append_nil] at hls
        refine iteF ⟨?_, kp2⟩
        rw [hls]
        exact hd
    · rw [decide_eq_false c1]
      rw [if_neg (fun z => c1 z.1), List.append_nil] at hls
      refine iteF ⟨_, rfl, iteF ⟨?_, kp2⟩⟩
      rw [hls]
      exact hd
  · rintro H2 ⟨hd, kp2⟩
    have hl := dpAll_len h4
    rw [List.length_map] at hl
    rw [hl, List.take_length] at hd
    exact q _ d (fun b o e => kp2 b o (ne_of_none (sm1 _ _ e) nd2) (sm1 _ _ e)) (Same.free sm1 nd2) hd
end
end L41

set_option maxHeartbeats 1000000
namespace L41
open PySem PySem.Spec PyProof.Rows L2 GR WX TX RZ NdefX CLo LamX
/-! ### a dict walked -/
/-- what an expression gives is locked from here on -/
def tFrz (t : TE) : TE := fun σ H Q => t σ H fun v H1 => ∃ (d : Addr) (u : HO), v = .ref d ∧ H1 d = some u ∧ Mut (some u) ∧ ∀ od, Q (.ref d) (upd H1 d (.frz od u))
theorem pe_frz {X : L2.Cx} {e : Expr} {t : TE} (h : PE X e t) : PE X e (tFrz t) := by
  refine ⟨fun pins s σ H Q I hw => ?_⟩
  refine thn (h.run pins s σ _ _ I hw) fun v s1 ⟨x, H1, I1, r, d, u, ex, hd, mu, q⟩ => ?_
  subst ex
  obtain ⟨od, I2⟩ := I1.lock hd mu
  exact ⟨.ref d, _, I2, r, q od⟩
theorem keys_body {d : Addr} {o : Obj} {kvs : List (Key × V)} {body : V → Hp → (Hp → Prop) → Prop} {H0 : Hp} {Qd : Hp → Prop} (Pv : Nat → Hp → Prop) (h0 : Pv 0 H0) (hl : ∀ i H, i ≤ kvs.length → Pv i H → H d = some (.frz o (.dK kvs)))
    (hs : ∀ i k v H, kvs[i]? = some (k, v) → Pv i H → body (kV k) H (Pv (i + 1))) (hd : ∀ H, Pv kvs.length H → Qd H) :
    ∃ W : Nat → Nat → Hp → Prop, (∃ m, W 0 m H0) ∧ ∀ i m H, W i m H →
      ((Itk d o kvs).stop i H ∧ Qd H) ∨ ((Itk d o kvs).go i H ∧ ∃ Nx : Hp → Prop, (∀ H', Nx H' → ∃ m', m' < m ∧ W (i + 1) m' H') ∧ ∀ x H', (Itk d o kvs).yld i H x H' → body x H' Nx) := by
  refine ⟨fun i m H => m = kvs.length - i ∧ i ≤ kvs.length ∧ Pv i H, ⟨kvs.length, rfl, Nat.zero_le _, h0⟩, ?_⟩
  rintro i m H ⟨rfl, hi, p⟩
  have q := hl i H hi p
  by_cases hlt : i < kvs.length
  · refine .inr ⟨⟨q, hlt⟩, Pv (i + 1), fun H' p' => ⟨kvs.length - (i + 1), by omega, rfl, hlt, p'⟩, fun x H' y => ?_⟩
    obtain ⟨rfl, k, v, hk, rfl⟩ := y
    exact hs i k v _ hk p
  · obtain rfl : i = kvs.length := by omega
    exact .inl ⟨⟨q, Nat.le_refl _⟩, hd H p⟩
/-- a dict of names and numbers, each name once -/
structure Lts (kvs : List (Key × V)) : Prop where
  nd : (kvs.map (·.1)).Nodup
  all : ∀ p, p ∈ kvs → ∃ (z : Str) (q : Int), p = (.inr z, .int q)
theorem Lts.put {kvs : List (Key × V)} (h : Lts kvs) (z : Str) (q : Int) : Lts (putK kvs (.inr z) (.int q)) := by
  unfold putK
  split
  · constructor
    · have : ((kvs.map fun kv => if kv.1 = .inr z then (kv.1, V.int q) else kv).map (·.1)) = kvs.map (·.1) := by
        rw [List.map_map]
        refine List.map_congr_left fun kv _ => ?_
        show (if kv.1 = .inr z then (kv.1, V.int q) else kv).1 = kv.1
        split <;> rfl
      rw [this]
      exact h.nd
    · intro p hp
      obtain ⟨kv, hkv, rfl⟩ := List.mem_map.mp hp
      obtain ⟨z', q', rfl⟩ := h.all kv hkv
      split
      · exact ⟨z', q, rfl⟩
      · exact ⟨z', q', rfl⟩
  · rename_i hn
    constructor
    · rw [List.map_append, List.nodup_append]
      refine ⟨h.nd, by simp, fun a ha b hb e => hn ?_⟩
      obtain ⟨kv, hkv, rfl⟩ := List.mem_map.mp ha
      rw [List.map_singleton, List.mem_singleton] at hb
      rw [List.any_eq_true]
      exact ⟨kv, hkv, decide_eq_true (e.trans hb)⟩
    · intro p hp
      rcases List.mem_append.mp hp with hp | hp
      · exact h.all p hp
      · rw [List.mem_singleton.mp hp]
        exact ⟨z, q, rfl⟩
theorem letsOf_all (lo hi : Int) : ∀ (es : List Ent) (p : Key × V), p ∈ letsOf lo hi es → ∃ (z : Str) (q : Int), p = (.inr z, .int q)
  | [], p, h => (nomatch h)
  | e :: es, p, h => by
    rw [letsOf] at h
    have ih := letsOf_all lo hi es p
    split at h
    · split at h
      · rename_i z _
        rcases List.mem_cons.mp h with rfl | h
        · exact ⟨z, e.1, rfl⟩
        · exact ih h
      · exact ih h
    · exact ih h
theorem Lts.merge : ∀ {more kvs : List (Key × V)}, Lts kvs → (∀ p, p ∈ more → ∃ (z : Str) (q : Int), p = (.inr z, .int q)) → Lts (mergeK kvs more)
  | [], kvs, h, _ => h
  | p :: more, kvs, h, g => by
    obtain ⟨z, q, rfl⟩ := g p List.mem_cons_self
    have := Lts.merge (h.put z q) fun p hp => g p (List.mem_cons_of_mem _ hp)
    unfold mergeK at this ⊢
    rw [List.foldl_cons]
    exact this
theorem lts_lets (lo hi : Int) (es : List Ent) : Lts (mergeK [] (letsOf lo hi es)) := Lts.merge ⟨.nil, fun p h => (nomatch h)⟩ (letsOf_all lo hi es)
/-- the positions that these lets tell -/
def lzK (kvs : List (Key × V)) (z : Str) : Option Int := match valV kvs (.inr z) with
  | some (.int q) => some q
  | _ => none
theorem valV_cons (p : Key × V) (kvs : List (Key × V)) (k : Key) : valV (p :: kvs) k = if p.1 = k then some p.2 else valV kvs k := by
  unfold valV
  rw [List.find?_cons]
  by_cases h : p.1 = k
  · rw [if_pos h, decide_eq_true h]
    rfl
  · rw [if_neg h, decide_eq_false h]
theorem valV_mem {kvs : List (Key × V)} {k : Key} {v : V} (hn : (kvs.map (·.1)).Nodup) (h : (k, v) ∈ kvs) : valV kvs k = some v := by
  induction kvs with
  | nil => exact (nomatch h)
  | cons p kvs ih =>
    rw [List.map_cons, List.nodup_cons] at hn
    rw [valV_cons]
    rcases List.mem_cons.mp h with rfl | h
    · rw [if_pos rfl]
    · have hne : ¬ p.1 = k := fun e => hn.1 (by rw [e]; exact List.mem_map_of_mem (f := (·.1)) h)
      rw [if_neg hne]
      exact ih hn.2 h
theorem valV_none {kvs : List (Key × V)} {k : Key} (h : k ∉ kvs.map (·.1)) : valV kvs k = none := by
  induction kvs with
  | nil => rfl
  | cons p kvs ih =>
    rw [List.map_cons, List.mem_cons, not_or] at h
    rw [valV_cons, if_neg fun e => h.1 e.symm]
    exact ih h.2
/-- the same names, their positions as lets -/
abbrev AccR (K : PySem.W.Frag) (H : Hp) : List (Key × V) → List (Key × V) → Prop := Paired fun a b => a.1 = b.1 ∧ ∃ q, b.2 = .int q ∧ Dp K H a.2 (letD q)
theorem AccR.keep {K : PySem.W.Frag} {H H' : Hp} (k : KeepT H H') : ∀ {a b : List (Key × V)}, AccR K H a b → AccR K H' a b
  | _, _, .nil => .nil
  | _, _, .cons ⟨h1, q, h2, h3⟩ t => .cons ⟨h1, q, h2, dp_keep k _ _ (flat_letD q) h3⟩ (AccR.keep k t)
theorem AccR.snoc {K : PySem.W.Frag} {H : Hp} {x y : Key × V} (h : x.1 = y.1 ∧ ∃ q, y.2 = .int q ∧ Dp K H x.2 (letD q)) : ∀ {a b : List (Key × V)}, AccR K H a b → AccR K H (a ++ [x]) (b ++ [y])
  | _, _, .nil => .cons h .nil
  | _, _, .cons g t => .cons g (AccR.snoc h t)
theorem AccR.val {K : PySem.W.Frag} {H : Hp} (k : Key) : ∀ {a b : List (Key × V)}, AccR K H a b → (∃ q v, valV b k = some (.int q) ∧ valV a k = some v ∧ Dp K H v (letD q)) ∨ (valV b k = none ∧ valV a k = none)
  | _, _, .nil => .inr ⟨rfl, rfl⟩
  | _, _, .cons (a := x) (b := y) ⟨h1, q, h2, h3⟩ t => by
    rw [valV_cons, valV_cons, h1]
    by_cases e : y.1 = k
    · rw [if_pos e, if_pos e, h2]
      exact .inl ⟨q, x.2, rfl, rfl, h3⟩
    · rw [if_neg e, if_neg e]
      exact AccR.val k t
theorem AccR.lz {K : PySem.W.Frag} {H : Hp} {a b : List (Key × V)} (h : AccR K H a b) : LzAt K H a (lzK b) := fun z => by
  unfold lzK
  rcases h.val (.inr z) with ⟨q, v, h1, h2, h3⟩ | ⟨h1, h2⟩
  · exact .inl ⟨q, v, by rw [h1], h2, h3⟩
  · exact .inr ⟨by rw [h1], h2⟩
end L41

set_option maxHeartbeats 1000000
namespace L41
open PySem PySem.Spec PyProof.Rows L2 GR WX TX RZ
/-! ### what becomes of each form -/
theorem kidsW2 (x : PyData) : kidsW W2 x = kids x := by
  unfold kidsW kids
  rfl
theorem kidsW1 (x : PyData) : kidsW W1 x = kidsF x := by
  unfold kidsW kidsF
  rfl
theorem fo {w : Str} {fs : List Str} (h : (w, fs) ∈ table) : fieldsOf w = fs := fieldsOf_table (w, fs) h
theorem r_no {W : List Str} {f : Str} {d : PyData} {fs : List Str} {ds qs : List PyData} (h : f ≠ "extra") (h2 : f ∉ W) : refill W (f :: fs) (d :: ds) qs = d :: refill W fs ds qs := by
  have e : takes W f d = 0 := by
    unfold takes pick1
    rw [if_neg h, if_neg h2]
    rfl
  rw [refill, e, List.drop_zero, refill1, if_neg h, if_neg h2]
theorem r_yes {W : List Str} {f : Str} {d q : PyData} {fs : List Str} {ds qs : List PyData} (h : f ≠ "extra") (h2 : f ∈ W) : refill W (f :: fs) (d :: ds) (q :: qs) = q :: refill W fs ds qs := by
  have e : takes W f d = 1 := by
    unfold takes pick1
    rw [if_neg h, if_pos h2]
    rfl
  rw [refill, e, refill1, if_neg h, if_pos h2]
  rfl
theorem r_ex0 {W : List Str} {fs : List Str} {ds qs : List PyData} : refill W ("extra" :: fs) (.tuple [] :: ds) qs = .tuple [] :: refill W fs ds qs := by
  have e : takes W "extra" (.tuple []) = 0 := by
    unfold takes pick1
    rw [if_pos rfl]
    rfl
  rw [refill, e, List.drop_zero, refill1, if_pos rfl]
  rfl
theorem r_nil {W : List Str} {qs : List PyData} : refill W [] [] qs = [] := by simp only [refill]
theorem mkV_no {lz : Str → Option Int} {o : Str} {ds qs : List PyData} (h : o ≠ "var") : mkG W2 (fV lz) (.tuple (.str o :: ds)) qs = if qs.isEmpty then .tuple (.str o :: ds) else .tuple (.str o :: refill W2 (fieldsOf o) ds qs) := by
  unfold mkG fV
  rw [if_neg (show ¬ headW (.tuple (.str o :: ds)) = "var" from h)]
  rfl
theorem mkK_no {k : PyData} {o : Str} {ds qs : List PyData} (h : o ≠ "key") : mkG W1 (fK k) (.tuple (.str o :: ds)) qs = if qs.isEmpty then .tuple (.str o :: ds) else .tuple (.str o :: refill W1 (fieldsOf o) ds qs) := by
  unfold mkG fK
  rw [if_neg (show ¬ headW (.tuple (.str o :: ds)) = "key" from h)]
  rfl
section
variable {lz : Str → Option Int} {n : Nat}
theorem varW_s (x : PyData) : varW lz (n + 1) x = mkG W2 (fV lz) x ((kids x).map (varW lz n)) := by
  unfold varW
  rw [foldE, kidsW2]
theorem v_leaf {zs : List Str} {o : Str} {ds : List PyData} (h : Leaf zs (.tuple (.str o :: ds))) (ho : o ≠ "var") : varW lz (n + 1) (.tuple (.str o :: ds)) = .tuple (.str o :: ds) := by
  rw [varW_s, kids_leaf h, mkV_no ho]
  rfl
theorem v_var {z : Str} {q : Int} (h : lz z = some q) : varW lz (n + 1) (.tuple [.str "var", .str z]) = letD q := by
  rw [varW_s]
  unfold mkG fV
  rw [if_pos (show headW (.tuple [.str "var", .str z]) = "var" from rfl)]
  show ((lz z).map letD).getD _ = _
  rw [h]
  rfl
theorem v_cell {t v : Str} {x : PyData} : varW lz (n + 1) (.tuple [.str "cell", .str t, x, .str v]) = .tuple [.str "cell", .str t, varW lz n x, .str v] := by
  rw [varW_s, kids_cell, mkV_no (by decide), fo (w := "cell") (fs := ["name", "free", "name"]) (by decide), List.map_cons, List.map_nil, if_neg (by simp), r_no (by decide) (by decide), r_yes (by decide) (by decide), r_no (by decide) (by decide), r_nil]
theorem v_op {o : Str} {x y : PyData} (h : o ∈ opws) : varW lz (n + 1) (.tuple [.str o, x, y]) = .tuple [.str o, varW lz n x, varW lz n y] := by
  rw [varW_s, kids_op h]
  simp only [opws, List.mem_cons, List.not_mem_nil, or_false] at h
  rcases h with rfl | rfl | rfl | rfl | rfl | rfl
  · rw [mkV_no (by decide), fo (w := "+") (fs := ["free", "free"]) (by decide), List.map_cons, List.map_cons, List.map_nil, if_neg (by simp), r_yes (by decide) (by decide), r_yes (by decide) (by decide), r_nil]
  · rw [mkV_no (by decide), fo (w := "-") (fs := ["free", "free"]) (by decide), List.map_cons, List.map_cons, List.map_nil, if_neg (by simp), r_yes (by decide) (by decide), r_yes (by decide) (by decide), r_nil]
  · rw [mkV_no (by decide), fo (w := "*") (fs := ["free", "free"]) (by decide), List.map_cons, List.map_cons, List.map_nil, if_neg (by simp), r_yes (by decide) (by decide), r_yes (by decide) (by decide), r_nil]
  · rw [mkV_no (by decide), fo (w := "<") (fs := ["free", "free"]) (by decide), List.map_cons, List.map_cons, List.map_nil, if_neg (by simp), r_yes (by decide) (by decide), r_yes (by decide) (by decide), r_nil]
  · rw [mkV_no (by decide), fo (w := "=") (fs := ["free", "free"]) (by decide), List.map_cons, List.map_cons, List.map_nil, if_neg (by simp), r_yes (by decide) (by decide), r_yes (by decide) (by decide), r_nil]
  · rw [mkV_no (by decide), fo (w := "at") (fs := ["free", "bound"]) (by decide), List.map_cons, List.map_cons, List.map_nil, if_neg (by simp), r_yes (by decide) (by decide), r_yes (by decide) (by decide), r_nil]
theorem v_if {x y z : PyData} : varW lz (n + 1) (.tuple [.str "if", x, y, z]) = .tuple [.str "if", varW lz n x, varW lz n y, varW lz n z] := by
  rw [varW_s, kids_if, mkV_no (by decide), fo (w := "if") (fs := ["free", "free", "free"]) (by decide), List.map_cons, List.map_cons, List.map_cons, List.map_nil, if_neg (by simp), r_yes (by decide) (by decide), r_yes (by decide) (by decide), r_yes (by decide) (by decide), r_nil]
theorem v_agg {o t : Str} {r p : PyData} {vs ds : List PyData} (h : (o, vs.length, ds.length) ∈ aggk) : varW lz (n + 1) (.tuple (.str o :: .str t :: .tuple [] :: r :: p :: (vs ++ ds))) = .tuple (.str o :: .str t :: .tuple [] :: varW lz n r :: varW lz n p :: (vs.map (varW lz n) ++ ds.map (varW lz n))) := by
  rw [varW_s, kids_agg (by rw [List.length_cons, List.length_cons, List.length_append]; exact (aggk_aggs h).1), List.nil_append]
  simp only [aggk, List.mem_cons, List.not_mem_nil, or_false, Prod.mk.injEq] at h
  rcases h with ⟨rfl, hv, hd⟩ | ⟨rfl, hv, hd⟩ | ⟨rfl, hv, hd⟩ | ⟨rfl, hv, hd⟩
  · rw [List.eq_nil_of_length_eq_zero hv, List.eq_nil_of_length_eq_zero hd, List.append_nil, mkV_no (by decide), fo (w := "count") (fs := ["name", "extra", "bound", "bound"]) (by decide), List.map_cons, List.map_cons, List.map_nil, if_neg (by simp), r_no (by decide) (by decide), r_ex0, r_yes (by decide) (by decide), r_yes (by decide) (by decide), r_nil]
    rfl
  · obtain ⟨v, rfl⟩ := List.length_eq_one_iff.mp hv
    rw [List.eq_nil_of_length_eq_zero hd, List.append_nil, mkV_no (by decide), fo (w := "sum") (fs := ["name", "extra", "bound", "bound", "bound"]) (by decide), List.map_cons, List.map_cons, List.map_cons, List.map_nil, if_neg (by simp), r_no (by decide) (by decide), r_ex0, r_yes (by decide) (by decide), r_yes (by decide) (by decide), r_yes (by decide) (by decide), r_nil]
    rfl
  · obtain ⟨v, rfl⟩ := List.length_eq_one_iff.mp hv
    obtain ⟨d, rfl⟩ := List.length_eq_one_iff.mp hd
    rw [List.cons_append, List.nil_append, mkV_no (by decide), fo (w := "most") (fs := ["name", "extra", "bound", "bound", "bound", "free"]) (by decide), List.map_cons, List.map_cons, List.map_cons, List.map_cons, List.map_nil, if_neg (by simp), r_no (by decide) (by decide), r_ex0, r_yes (by decide) (by decide), r_yes (by decide) (by decide), r_yes (by decide) (by decide), r_yes (by decide) (by decide), r_nil]
    rfl
  · obtain ⟨d, rfl⟩ := List.length_eq_one_iff.mp hd
    rw [List.eq_nil_of_length_eq_zero hv, List.nil_append, mkV_no (by decide), fo (w := "first") (fs := ["name", "extra", "bound", "bound", "free"]) (by decide), List.map_cons, List.map_cons, List.map_cons, List.map_nil, if_neg (by simp), r_no (by decide) (by decide), r_ex0, r_yes (by decide) (by decide), r_yes (by decide) (by decide), r_yes (by decide) (by decide), r_nil]
    rfl
theorem v_row {t : Str} (hn : 2 ≤ n) : varW lz n (rowX t) = rowX t := by
  obtain ⟨k, rfl⟩ : ∃ k, n = k + 2 := ⟨n - 2, by omega⟩
  show varW lz (k + 2) (.tuple [.str "cell", .str t, .tuple [.str "key"], .str "in"]) = _
  rw [v_cell, v_leaf (zs := []) .key (by decide)]
  rfl
end
section
variable {k : PyData} {n : Nat}
theorem keyW_s (x : PyData) : keyW k (n + 1) x = mkG W1 (fK k) x ((kidsF x).map (keyW k n)) := by
  unfold keyW
  rw [foldE, kidsW1]
theorem k_key : keyW k (n + 1) (.tuple [.str "key"]) = k := by
  rw [keyW_s]
  unfold mkG fK
  rw [if_pos (show headW (.tuple [.str "key"]) = "key" from rfl)]
theorem k_int {i : Int} : keyW k (n + 1) (.tuple [.str "int", .int i]) = .tuple [.str "int", .int i] := by
  rw [keyW_s, kidsF_of (fs := ["value"]) (by decide), q_no (by decide) (by decide), q_nil, mkK_no (by decide)]
  rfl
theorem k_let {i : Int} : keyW k (n + 1) (.tuple [.str "let", .int i]) = .tuple [.str "let", .int i] := by
  rw [keyW_s, kidsF_of (fs := ["position"]) (by decide), q_no (by decide) (by decide), q_nil, mkK_no (by decide)]
  rfl
theorem k_cell {t v : Str} {x : PyData} : keyW k (n + 1) (.tuple [.str "cell", .str t, x, .str v]) = .tuple [.str "cell", .str t, keyW k n x, .str v] := by
  rw [keyW_s, kidsF_of (fs := ["name", "free", "name"]) (by decide), q_no (by decide) (by decide), q_yes (by decide) (by decide), q_no (by decide) (by decide), q_nil, mkK_no (by decide), fo (w := "cell") (fs := ["name", "free", "name"]) (by decide), List.map_cons, List.map_nil, if_neg (by simp), r_no (by decide) (by decide), r_yes (by decide) (by decide), r_no (by decide) (by decide), r_nil]
theorem k_op {o : Str} {x y : PyData} (h : o ∈ ops5) : keyW k (n + 1) (.tuple [.str o, x, y]) = .tuple [.str o, keyW k n x, keyW k n y] := by
  have hs : ∀ o, o ∈ ops5 → o ≠ "key" ∧ ((o, ["free", "free"]) : Str × List Str) ∈ table := by decide
  obtain ⟨h1, h2⟩ := hs o h
  rw [keyW_s, kidsF_of h2, q_yes (by decide) (by decide), q_yes (by decide) (by decide), q_nil, mkK_no h1, fo (w := o) (fs := ["free", "free"]) h2, List.map_cons, List.map_cons, List.map_nil, if_neg (by simp), r_yes (by decide) (by decide), r_yes (by decide) (by decide), r_nil]
theorem k_at {x y : PyData} : keyW k (n + 1) (.tuple [.str "at", x, y]) = .tuple [.str "at", keyW k n x, y] := by
  rw [keyW_s, kidsF_of (fs := ["free", "bound"]) (by decide), q_yes (by decide) (by decide), q_no (by decide) (by decide), q_nil, mkK_no (by decide), fo (w := "at") (fs := ["free", "bound"]) (by decide), List.map_cons, List.map_nil, if_neg (by simp), r_yes (by decide) (by decide), r_no (by decide) (by decide), r_nil]
theorem k_if {x y z : PyData} : keyW k (n + 1) (.tuple [.str "if", x, y, z]) = .tuple [.str "if", keyW k n x, keyW k n y, keyW k n z] := by
  rw [keyW_s, kidsF_of (fs := ["free", "free", "free"]) (by decide), q_yes (by decide) (by decide), q_yes (by decide) (by decide), q_yes (by decide) (by decide), q_nil, mkK_no (by decide), fo (w := "if") (fs := ["free", "free", "free"]) (by decide), List.map_cons, List.map_cons, List.map_cons, List.map_nil, if_neg (by simp), r_yes (by decide) (by decide), r_yes (by decide) (by decide), r_yes (by decide) (by decide), r_nil]
theorem k_agg {o t : Str} {r p : PyData} {vs ds : List PyData} (h : (o, vs.length, ds.length) ∈ aggk) : keyW k (n + 1) (.tuple (.str o :: .str t :: .tuple [] :: r :: p :: (vs ++ ds))) = .tuple (.str o :: .str t :: .tuple [] :: r :: p :: (vs ++ ds.map (keyW k n))) := by
  rw [keyW_s]
  simp only [aggk, List.mem_cons, List.not_mem_nil, or_false, Prod.mk.injEq] at h
  rcases h with ⟨rfl, hv, hd⟩ | ⟨rfl, hv, hd⟩ | ⟨rfl, hv, hd⟩ | ⟨rfl, hv, hd⟩
  · rw [List.eq_nil_of_length_eq_zero hv, List.eq_nil_of_length_eq_zero hd, List.append_nil, kidsF_of (fs := ["name", "extra", "bound", "bound"]) (by decide), q_no (by decide) (by decide), q_ex, List.nil_append, q_no (by decide) (by decide), q_no (by decide) (by decide), q_nil, mkK_no (by decide)]
    rfl
  · obtain ⟨v, rfl⟩ := List.length_eq_one_iff.mp hv
    rw [List.eq_nil_of_length_eq_zero hd, List.append_nil, kidsF_of (fs := ["name", "extra", "bound", "bound", "bound"]) (by decide), q_no (by decide) (by decide), q_ex, List.nil_append, q_no (by decide) (by decide), q_no (by decide) (by decide), q_no (by decide) (by decide), q_nil, mkK_no (by decide)]
    rfl
  · obtain ⟨v, rfl⟩ := List.length_eq_one_iff.mp hv
    obtain ⟨d, rfl⟩ := List.length_eq_one_iff.mp hd
    rw [List.cons_append, List.nil_append, kidsF_of (fs := ["name", "extra", "bound", "bound", "bound", "free"]) (by decide), q_no (by decide) (by decide), q_ex, List.nil_append, q_no (by decide) (by decide), q_no (by decide) (by decide), q_no (by decide) (by decide), q_yes (by decide) (by decide), q_nil, mkK_no (by decide), fo (w := "most") (fs := ["name", "extra", "bound", "bound", "bound", "free"]) (by decide), List.map_cons, List.map_nil, if_neg (by simp), r_no (by decide) (by decide), r_ex0, r_no (by decide) (by decide), r_no (by decide) (by decide), r_no (by decide) (by decide), r_yes (by decide) (by decide), r_nil]
    rfl
  · obtain ⟨d, rfl⟩ := List.length_eq_one_iff.mp hd
    rw [List.eq_nil_of_length_eq_zero hv, List.nil_append, kidsF_of (fs := ["name", "extra", "bound", "bound", "free"]) (by decide), q_no (by decide) (by decide), q_ex, List.nil_append, q_no (by decide) (by decide), q_no (by decide) (by decide), q_yes (by decide) (by decide), q_nil, mkK_no (by decide), fo (w := "first") (fs := ["name", "extra", "bound", "bound", "free"]) (by decide), List.map_cons, List.map_nil, if_neg (by simp), r_no (by decide) (by decide), r_ex0, r_no (by decide) (by decide), r_no (by decide) (by decide), r_yes (by decide) (by decide), r_nil]
    rfl
end
/-! ### what is made is an expression again -/
theorem Cx.varW {zs sc : List Str} {lz : Str → Option Int} (hl : ∀ z, z ∈ sc → ∃ q, lz z = some q ∧ 0 ≤ q ∧ q ≤ 10000) {b : Bool} {n : Nat} {x : PyData} (h : Cx zs sc b n x) : Cx ("+" :: zs) [] b n (varW lz n x) := by
  induction h with
  | int b n i h1 h2 =>
    rw [v_leaf (zs := []) (.int i h1 h2) (by decide)]
    exact .int b n i h1 h2
  | let_ b n i g h1 h2 =>
    rw [v_leaf (zs := []) (.let_ i h1 h2) (by decide)]
    exact .let_ b n i List.mem_cons_self h1 h2
  | key n =>
    rw [v_leaf (zs := []) .key (by decide)]
    exact .key n
  | var b n z h1 =>
    obtain ⟨q, e, q0, q1⟩ := hl z h1
    rw [v_var e]
    exact .let_ b n q List.mem_cons_self q0 q1
  | cell b n t v x h1 h2 _ ih =>
    rw [v_cell]
    exact .cell b n t v _ ⟨List.mem_cons_of_mem _ h1.1, h1.2⟩ ⟨List.mem_cons_of_mem _ h2.1, h2.2⟩ ih
  | op b n o x y h1 _ _ ih1 ih2 =>
    rw [v_op ((show ∀ o, o ∈ ops5 → o ∈ opws by decide) o h1)]
    exact .op b n o _ _ h1 ih1 ih2
  | at_ b n x y _ _ ih1 ih2 =>
    rw [v_op (by decide)]
    exact .at_ b n _ _ ih1 ih2
  | iff b n x y z _ _ _ ih1 ih2 ih3 =>
    rw [v_if]
    exact .iff b n _ _ _ ih1 ih2 ih3
  | agg b n o t p xs vs ds hh h0 h1 h2 h3 _ _ _ _ _ ih2 ih3 ih4 =>
    obtain rfl : xs = [] := List.eq_nil_of_length_eq_zero (Nat.le_zero.mp h3)
    rw [v_agg h1, v_row h0]
    refine .agg b n o t _ [] _ _ (List.mem_cons_of_mem _ hh) h0 (by rw [List.length_map, List.length_map]; exact h1) ⟨List.mem_cons_of_mem _ h2.1, h2.2⟩ (Nat.le_refl _) (fun x hx => (nomatch hx)) ih2 (fun x hx => ?_) (fun x hx => ?_)
    · obtain ⟨y, hy, rfl⟩ := List.mem_map.mp hx
      exact ih3 y hy
    · obtain ⟨y, hy, rfl⟩ := List.mem_map.mp hx
      exact ih4 y hy
def intD (k : Int) : PyData := .tuple [.str "int", .int k]
theorem Cx.keyW {zs : List Str} {k : Int} (h1 : -(10 ^ 18) ≤ k) (h2 : k ≤ 10 ^ 18) {b : Bool} {n : Nat} {x : PyData} (h : Cx zs [] b n x) : Cx zs [] false n (keyW (intD k) n x) := by
  induction h with
  | int b n i g1 g2 =>
    rw [k_int]
    exact .int false n i g1 g2
  | let_ b n i g g1 g2 =>
    rw [k_let]
    exact .let_ false n i g g1 g2
  | key n =>
    rw [k_key]
    exact .int false n k h1 h2
  | var b n z g1 => exact (nomatch g1)
  | cell b n t v x g1 g2 _ ih =>
    rw [k_cell]
    exact .cell false n t v _ g1 g2 ih
  | op b n o x y g1 _ _ ih1 ih2 =>
    rw [k_op g1]
    exact .op false n o _ _ g1 ih1 ih2
  | at_ b n x y _ g2 ih1 _ =>
    rw [k_at]
    exact .at_ false n _ _ ih1 g2
  | iff b n x y z _ _ _ ih1 ih2 ih3 =>
    rw [k_if]
    exact .iff false n _ _ _ ih1 ih2 ih3
  | agg b n o t p xs vs ds hh h0 g1 g2 g3 _ g5 g6 _ _ _ _ ih4 =>
    obtain rfl : xs = [] := List.eq_nil_of_length_eq_zero (Nat.le_zero.mp g3)
    rw [k_agg g1]
    refine .agg false n o t _ [] _ _ hh h0 (by rw [List.length_map]; exact g1) g2 (Nat.le_refl _) (fun x hx => (nomatch hx)) g5 g6 (fun x hx => ?_)
    obtain ⟨y, hy, rfl⟩ := List.mem_map.mp hx
    exact ih4 y hy
/-- .. with lets in place of variables, a number in place of the key, if there is one -/
def pfE (lz : Str → Option Int) : Option Int → Nat → PyData → PyData
  | none, n, x => L41.varW lz n x
  | some k, n, x => L41.keyW (intD k) n (L41.varW lz n x)
end L41

set_option maxHeartbeats 1000000
namespace L41
open PySem PySem.Spec PyProof.Rows L2 GR WX TX RZ NdefX CLo LamX
theorem dpAll_get {K : PySem.W.Frag} {H : Hp} : ∀ {vs : List V} {ds : List PyData} {i : Nat} {d : PyData}, DpAll K H vs ds → ds[i]? = some d → ∃ v, vs[i]? = some v ∧ Dp K H v d
  | _, _, 0, d, .cons h _, e => by
    cases e
    exact ⟨_, rfl, h⟩
  | _, _, i + 1, d, .cons _ t, e => by
    obtain ⟨v, h1, h2⟩ := dpAll_get t (by simpa using e)
    exact ⟨v, by simpa using h1, h2⟩
  | _, _, _, _, .nil, e => by simp at e
def guardX (t : Str) (P : PyData) : PyData := .tuple [.str "if", rowX t, P, intD 0]
/-- the expression of a statement's slots of this word -/
def SlotOk (word : Str) (xs : List PyData) (y : PyData) : Prop := (word = "guard" ∧ ∃ t P, xs[1]? = some (.str t) ∧ xs[2]? = some P ∧ y = guardX t P) ∨ (word = "key" ∧ xs[2]? = some y) ∨ (word ≠ "guard" ∧ word ≠ "key" ∧ ∃ pre, xs = pre ++ [y])
section
variable {P : Program} {w : World} {K : PySem.W.Frag} {mg : Str → Option Value} {base : Heap}
abbrev s_rows_of : Stmt := topS 10
theorem sc_rows_of : FnScope ["table"] ["table"] (defScope s_rows_of) := ⟨rfl, rfl, rfl, by decide +kernel, rfl, by decide +kernel, by decide +kernel⟩
def sp_rows (K : PySem.W.Frag) : Sp := fun vs H Q _ => ∃ t : Str, vs = [.str t] ∧ ∀ H' v, Same H H' → Dp K H' v (rowX t) → Q v H'
theorem ok_rows_of {f : Addr} {fd : FuncData} {k : Nat} (F : Fun K "rows_of" "rows_of" s_rows_of f fd) : FnOk P w K mg base CX0 (k + 1) f fd ["table"] (sp_rows K) := by
  refine F.ok sc_rows_of (fun vs H Q E h => ?_) (fun cdv A outer s H vs Q E hr h => ?_)
  · obtain ⟨t, rfl, _⟩ := h
    rfl
  obtain ⟨t, rfl, q⟩ := h
  refine ⟨_, (pss_one (ps_ret (pe_tup (pa_cons pe_str (pa_cons (pv 0) (pa_cons (pe_tup (pa_cons pe_str pa_nil)) (pa_cons pe_str pa_nil))))))), ?_⟩
  refine ⟨.str t, rfl, h1000 (show 1 ≤ 1000 by decide), fun p1 n1 => ⟨h1000 (show 4 ≤ 1000 by decide), fun p2 n2 => ?_⟩⟩
  have s1 := same_upd (o := .tup [.str "key"]) n1
  have b1 := new_tup (K := K) (.cons (.str "key") .nil) rfl n1
  exact q _ _ (s1.trans (same_upd n2)) (new_tup (.cons (.str _) (.cons (.str t) (.cons b1 (.cons (.str _) .nil)))) rfl n2)
abbrev s_slot_expression : Stmt := topS 18
theorem sc_slot_expression : FnScope ["statement", "word"] ["statement", "word"] (defScope s_slot_expression) := ⟨rfl, rfl, rfl, by decide +kernel, rfl, by decide +kernel, by decide +kernel⟩
def sp_se (K : PySem.W.Frag) : Sp := fun vs H Q _ => ∃ (v : V) (word : Str) (xs : List PyData) (y : PyData), vs = [v, .str word] ∧ Dp K H v (.tuple xs) ∧ flatDs xs = true ∧ SlotOk word xs y ∧ ∀ H' v', Same H H' → Dp K H' v' y → Q v' H'
theorem ok_slot_expression {f fr : Addr} {fd fdr : FuncData} {k : Nat} (F : Fun K "slot_expression" "slot_expression" s_slot_expression f fd) (G : FnOk P w K mg base CX0 k fr fdr ["table"] (sp_rows K)) (g : mg "rows_of" = some (.ref fr)) (Kf : PySem.W.keepIn K (.ref fr) = true) (b : Binds K fdr ["table"] []) :
    FnOk P w K mg base CX0 (k + 1) f fd ["statement", "word"] (sp_se K) := by
  refine F.ok sc_slot_expression (fun vs H Q E h => ?_) (fun cdv A outer s H vs Q E hr h => ?_)
  · obtain ⟨v, word, xs, y, rfl, _⟩ := h
    rfl
  obtain ⟨v, word, xs, y, rfl, hd, hfl, hs, q⟩ := h
  refine ⟨_, (pss_cons (ps_if (pt_cmpR op_eq (pv 1) pe_str (nomark _))
      (pss_one (ps_ret (pe_tup (pa_cons pe_str (pa_cons (pe_call G hr (by rfl) g Kf b .nil pass0 (pa_cons (pe_ix ix_tup (pv 0) pe_int (fun _ _ => rfl)) pa_nil)) (pa_cons (pe_ix ix_tup (pv 0) pe_int (fun _ _ => rfl)) (pa_cons (pe_tup (pa_cons pe_str (pa_cons pe_int pa_nil))) pa_nil)))))))
      pss_nil)
      (pss_cons (ps_if (pt_cmpR op_eq (pv 1) pe_str (nomark _))
      (pss_one (ps_ret (pe_ix ix_tup (pv 0) pe_int (fun _ _ => rfl))))
      pss_nil)
      (pss_one (ps_ret (pe_ix ix_tup (pv 0) (pe_un un_neg pe_int) (fun _ _ => rfl)))))), ?_⟩
  cases hd with
  | tup hS hA =>
  rename_i p vs
  have word_is : ∀ {A B : Prop} (z : Str), (word = z → A) → (word ≠ z → B) → if decide (V.str word = V.str z) = true then A else B := fun {A B} z h1 h2 => by
    by_cases e : word = z
    · rw [if_pos (decide_eq_true (by rw [e]))]
      exact h1 e
    · rw [if_neg (fun c => e (V.str.inj (of_decide_eq_true c)))]
      exact h2 e
  refine ⟨.str word, rfl, rfl, _, rfl, word_is "guard" (fun e => ?_) (fun e => ?_)⟩
  · rcases hs with ⟨_, t, P', h1, h2, rfl⟩ | ⟨rfl, _⟩ | ⟨h, _⟩
    · obtain ⟨v1, a1, d1⟩ := dpAll_get hA h1
      cases d1
      obtain ⟨v2, a2, d2⟩ := dpAll_get hA h2
      have f2 := flatDs_at hfl h2
      refine ⟨.ref p, rfl, p, _, 1, .str t, rfl, rfl, hS, atI_nat a1, t, rfl, fun H1 vr s1 hr1 => ?_⟩
      refine ⟨.ref p, rfl, p, _, 2, v2, rfl, rfl, (KeepT.of s1).seqt hS, atI_nat a2, h1000 (show 2 ≤ 1000 by decide), fun p1 n1 => ⟨h1000 (show 4 ≤ 1000 by decide), fun p2 n2 => ?_⟩⟩
      have s2 := same_upd (o := .tup [.str "int", .int 0]) n1
      have b1 := new_tup (K := K) (.cons (.str "int") (.cons (.int 0) .nil)) rfl n1
      refine q _ _ ((s1.trans s2).trans (same_upd n2)) (new_tup (.cons (.str _) (.cons (dp_keep (KeepT.of s2) _ _ rfl hr1) (.cons (dp_keep (KeepT.of (s1.trans s2)) _ _ f2 d2) (.cons b1 .nil)))) ?_ n2)
      simp only [flatDs, flatD, f2, rowX, intD, Bool.and_self]
    · exact absurd e (by decide)
    · exact absurd e h
  · refine ⟨.str word, rfl, rfl, _, rfl, word_is "key" (fun e2 => ?_) (fun e2 => ?_)⟩
    · rcases hs with ⟨h, _⟩ | ⟨_, h2⟩ | ⟨_, h, _⟩
      · exact absurd h e
      · obtain ⟨v2, a2, d2⟩ := dpAll_get hA h2
        exact ⟨.ref p, rfl, p, _, 2, v2, rfl, rfl, hS, atI_nat a2, q H v2 (fun _ _ e => e) d2⟩
      · exact absurd e2 h
    · rcases hs with ⟨h, _⟩ | ⟨h, _⟩ | ⟨_, _, pre, rfl⟩
      · exact absurd h e
      · exact absurd h e2
      · obtain ⟨yv, d, xs', hsplit, hy, _, hyd⟩ := dpAll_last hA (fun z => by
          rw [z] at hA
          have := dpAll_len hA
          rw [List.length_append] at this
          cases this)
        obtain ⟨_, h2⟩ := List.append_inj' hsplit rfl
        have h2 : y = d := (List.cons.inj h2).1
        subst h2
        have hne : vs ≠ [] := fun z => by rw [z] at hy; cases hy
        have hv : vs = vs.dropLast ++ [yv] := by
          have e1 := List.dropLast_concat_getLast hne
          have e3 : vs.getLast hne = yv := by
            rw [← List.getLast?_eq_getElem?, List.getLast?_eq_getLast hne] at hy
            exact Option.some.inj hy
          rw [e3] at e1
          exact e1.symm
        refine ⟨.ref p, rfl, 1, rfl, p, vs, -1, yv, rfl, rfl, hS, ?_, q H yv (fun _ _ e => e) hyd⟩
        rw [hv]
        exact atI_last _ _
abbrev s_with_lets : Stmt := topS 19
abbrev N_wl : List Str := ["log", "expression", "position", "lets", "name"]
theorem sc_with_lets : FnScope N_wl ["log", "expression", "position"] (defScope s_with_lets) := ⟨rfl, rfl, rfl, by decide +kernel, rfl, by decide +kernel, by decide +kernel⟩
def lzOf (lo n : Int) (es : List Ent) : Str → Option Int := lzK (mergeK [] (letsOf lo n es))
def sp_wlets (K : PySem.W.Frag) (T : List NTab) : Sp := fun vs H Q _ => ∃ (p : Addr) (v : V) (n lo : Int) (ms : List Int) (es : List Ent) (x : PyData) (zs : List Str) (m : Nat), vs = [.ref p, v, .int n] ∧ LgD K H p ms es ∧ LowM ms n lo ∧ ms.length ≤ 6 ∧ es.length ≤ 30 ∧ Dp K H v x ∧ Ex zs m x ∧ NOks zs ∧ (flatP m x).length ≤ 200000 ∧ TabsN T H ∧
  ∀ H' v', ExtN H H' → TabsN T H' → Dp K H' v' (varW (lzOf lo n es) m x) → Q v' H'
theorem ok_with_lets {T : List NTab} {f fl fv : Addr} {fd fdl fdv : FuncData} {k : Nat} (F : Fun K "with_lets" "with_lets" s_with_lets f fd) (Gl : FnOk P w K mg base CX0 k fl fdl ["log", "position"] (sp_lat K)) (gl : mg "lets_at" = some (.ref fl)) (Kl : PySem.W.keepIn K (.ref fl) = true) (bl : Binds K fdl ["log", "position"] [])
    (Gv : FnOk P w K mg base CX0 k fv fdv ["expression", "others"] (sp_wv K T)) (gv : mg "with_variables" = some (.ref fv)) (Kv : PySem.W.keepIn K (.ref fv) = true) (bv : Binds K fdv ["expression", "others"] []) :
    FnOk P w K mg base CX0 (k + 1) f fd ["log", "expression", "position"] (sp_wlets K T) := by
  have nd := sc_with_lets.nd
  refine F.ok sc_with_lets (fun vs H Q E h => ?_) (fun cdv A outer s H vs Q E hr h => ?_)
  · obtain ⟨p, v, n, lo, ms, es, x, zs, m, rfl, _⟩ := h
    rfl
  obtain ⟨p, v, n, lo, ms, es, x, zs, m, rfl, hL, hlo, hms, hes, hd, he, hzs, hb, hT, q⟩ := h
  have hu1 := hu_of hr
  refine ⟨_, (pss_cons (ps_set (i := 3) nd rfl (.inr rfl) (pe_call Gl hr (by rfl) gl Kl bl .nil pass0 (pa_cons (pv 0) (pa_cons (pv 2) pa_nil))))
      (pss_one (ps_ret (pe_call Gv hr (by rfl) gv Kv bv .nil pass0 (pa_cons (pv 1) (pa_cons (pe_dc (own := [("name", 4)]) (g := gName 4) (tt := tYes) (tk := tVar 4) (tv := tTup (tCons (tC (.str "let")) (tCons (tDGet (tVar 3) (tVar 4)) tNil))) rfl nd (pi_keys (pe_frz (pv 3))) (blkOk_by (N := N_wl) (sc := defScope s_with_lets) (by decide +kernel))
          (fun _ _ _ _ _ => (pg_name (i := 4) (x := "name") nd rfl (Or.inl rfl))) (fun _ _ _ _ _ => pts_nil) (fun _ _ _ _ _ => (pv 4)) (fun _ _ _ _ _ => (pe_tup (pa_cons pe_str (pa_cons (pe_dget hu1 (pv 3) (pv 4) noSl_name) pa_nil))))) pa_nil)))))), ?_⟩
  refine ⟨.ref p, rfl, .int n, rfl, p, n, lo, ms, es, rfl, hL, hlo, hms, hes, fun H1 d s1 hdn hd1 => ?_⟩
  have hlts := lts_lets lo n es
  unfold lzOf at q
  have hlen : (mergeK [] (letsOf lo n es)).length ≤ 30 := Nat.le_trans (merge_len _) (Nat.le_trans (lets_len _ _ _) hes)
  generalize mergeK [] (letsOf lo n es) = kvs at hd1 hlts q hlen
  refine ⟨v, rfl, .ref d, rfl, d, _, rfl, hd1, True.intro, fun od => ?_⟩
  have hF : upd H1 d (.frz od (.dK kvs)) d = some (.frz od (.dK kvs)) := upd_same
  have sF : Same H (upd H1 d (.frz od (.dK kvs))) := fun b ob e => by
    rw [upd_ne (ne_of_none e hdn)]
    exact s1 _ _ e
  revert hF sF
  generalize upd H1 d (.frz od (.dK kvs)) = H2
  intro hF sF
  refine ⟨d, od, rfl, .inl ⟨kvs, hF, fun D nD => ?_⟩⟩
  have hdD : d ≠ D := ne_of_none hF nD
  refine keys_body (kvs := kvs) (fun i H' => ∃ acc, H' D = some (.dK acc) ∧ acc.length = i ∧ AccR K H' acc (kvs.take i) ∧ ∀ b ob, b ≠ D → H2 b = some ob → H' b = some ob) ?_ ?_ ?_ ?_
  · refine ⟨[], upd_same, rfl, ?_, fun b ob hb e => by rw [upd_ne hb]; exact e⟩
    rw [List.take_zero]
    exact .nil
  · rintro i H' _ ⟨acc, hD, hl, hR, kk⟩
    exact kk _ _ hdD hF
  · rintro i ky val H' hk ⟨acc, hD, hl, hR, kk⟩
    have hmem := List.mem_of_getElem? hk
    obtain ⟨z, qv, e⟩ := hlts.all _ hmem
    cases e
    have hi : i < kvs.length := (List.getElem?_eq_some_iff.mp hk).1
    have hval := valV_mem hlts.nd hmem
    have hF' := kk _ _ hdD hF
    refine ⟨rfl, yes_then ⟨.str z, rfl, .ref d, rfl, .str z, rfl, d, .int qv, rfl, .inl ⟨kvs, .inr z, .inr ⟨od, hF'⟩, rfl, hval.symm⟩, h1000 (show 2 ≤ 1000 by decide), fun t nt => ?_⟩⟩
    have st := same_upd (o := .tup [.str "let", .int qv]) nt
    have hD1 := st _ _ hD
    have hdt : Dp K (upd H' t (.tup [.str "let", .int qv])) (.ref t) (letD qv) := new_tup (.cons (.str "let") (.cons (.int qv) .nil)) rfl nt
    have hnone : valV acc (.inr z) = none := by
      rcases hR.val (.inr z) with ⟨q', v', h1, _, _⟩ | ⟨_, h2⟩
      · exfalso
        have hnd := hlts.nd
        have e1 : kvs = kvs.take i ++ kvs.drop i := (List.take_append_drop i kvs).symm
        have hd2 := drop_at hk
        rw [e1, List.map_append, List.nodup_append] at hnd
        have hin : (Sum.inr z : Key) ∈ (kvs.take i).map (·.1) := by
          apply Classical.byContradiction
          intro hc
          rw [valV_none hc] at h1
          cases h1
        have hin2 : (Sum.inr z : Key) ∈ (kvs.drop i).map (·.1) := by
          rw [hd2, List.map_cons]
          exact List.mem_cons_self
        exact hnd.2.2 _ hin _ hin2 rfl
      · exact h2
    have kD : KeepT (upd H' t (.tup [.str "let", .int qv])) (upd (upd H' t (.tup [.str "let", .int qv])) D (.dK (putK acc (.inr z) (.ref t)))) := KeepT.dk hD1
    refine ⟨acc, .inr z, rfl, hD1, small1000 (by omega), putK acc (.inr z) (.ref t), upd_same, ?_, ?_, fun b ob hb e => ?_⟩
    · rw [putK_new _ hnone, List.length_append, hl]
      rfl
    · rw [putK_new _ hnone] at kD
      rw [putK_new _ hnone, take_snoc hk]
      exact AccR.snoc (x := (.inr z, .ref t)) (y := (.inr z, .int qv)) ⟨rfl, qv, rfl, dp_keep kD _ (.ref t) (flat_letD qv) hdt⟩ (hR.keep ((KeepT.of st).trans kD))
    · rw [upd_ne hb]
      exact st _ _ (kk b ob hb e)
  · rintro H3 ⟨acc, hD, hl, hR, kk⟩
    rw [List.take_length] at hR
    have s3 : Same H H3 := fun b ob e => kk b ob (ne_of_none (sF _ _ e) nD) (sF _ _ e)
    refine ⟨v, D, acc, lzK kvs, x, zs, m, rfl, he.kept (KeepT.of s3) hd, he, hzs, hD, hR.lz, hb, fun p hp => (hT p hp).ext s3, fun H4 v' x4 hT4 hr4 => q H4 v' ((ExtN.of s3).trans x4) hT4 hr4⟩
end
end L41

/-! Sets of tuples of texts and ints: the table of such a set, one more element (the library's words are for tuples of ints). -/
namespace UA
open PySem PySem.Spec PyProof.Rows L2
/-- a key: the tuple's items -/
abbrev TKey := List L2.Key
/-- its hash -/
abbrev hz (P : Program) (w : World) (k : TKey) : Int := tupleKeyHash (mixKind P w) k
/-- at b lies the tuple k -/
abbrev Lies (P : Program) (w : World) (h : Heap) (k : TKey) (b : Addr) : Prop := IsTupleKey (mixKind P w) h k b
theorem lies_keep {P : Program} {w : World} {h g : Heap} {k : TKey} {b : Addr} (l : Lies P w h k b) (e : ∀ c o, h.get? c = some o → g.get? c = some o) : Lies P w g k b := by
  obtain ⟨o, its, n, ho, q⟩ := l
  exact ⟨o, its, n, e _ _ ho, q⟩
theorem lies_but {P : Program} {w : World} {h g : Heap} {k : TKey} {a b : Addr} {o : Obj} {es : Array (Int × Value)} {ep : Nat} {t : SetTable} (l : Lies P w h k b) (ho : h.get? a = some o) (hd : o.data = .set es ep t) (sb : Heap.SameBut a h g) : Lies P w g k b := by
  obtain ⟨u, its, n, hu, hc, du, q⟩ := l
  have ne : b ≠ a := by
    intro z
    rw [z, ho] at hu
    cases hu
    rw [hd] at du
    cases du
  exact ⟨u, its, n, (sb.2 b ne).trans hu, hc, du, q⟩
/-- what an item of a key is asked -/
theorem item_plain {P : Program} {w : World} : ∀ {k : TKey} {vs : List Value}, ItemsAre (mixKind P w) k vs → ∀ v, v ∈ vs → (∀ n, ofAClassStatement n v = pure false) ∧ ∀ n, ∃ y, hashByValue n v = pure y
  | _, _, .nil, v, hv => nomatch hv
  | _, _, .cons h t, v, hv => by
    rcases List.mem_cons.mp hv with rfl | hv
    · rcases keyIs_shape h with ⟨i, tk, rfl, rfl⟩ | ⟨x, tk, rfl, rfl⟩
      · exact ⟨fun n => by cases n <;> rfl, fun n => ⟨true, by cases n <;> rfl⟩⟩
      · exact ⟨fun n => by cases n <;> rfl, fun n => ⟨false, by cases n <;> rfl⟩⟩
    · exact item_plain t v hv
section
variable {P : Program} {w : World} {A : Around} {E : Value → Shared → Prop} {s : Shared}
theorem class_no {k : TKey} {b : Addr} {Q : Bool → Shared → Prop} (l : Lies P w s.heap k b) (q : Q false s) : wpAny (model P w) A (ofAClassStatement 8 (.ref b)) Q E s := by
  have ty := l.typeIs
  obtain ⟨o, its, n, ho, _, hd, hi⟩ := l
  have pl := item_plain hi
  unfold ofAClassStatement
  apply wpAny_bind
  refine wpAny_typeOf ty ?_
  dsimp only
  have yes : (("tuple" : String) == "tuple") = true := by decide
  simp only [yes, if_true, Bool.not_true, Bool.false_eq_true, if_false]
  (try (apply wpAny_bind; apply wpAny_pure))
  try simp only [Bool.not_true, Bool.false_eq_true, if_false]
  show wpAny _ _ (seqItems? (Value.ref b) >>= _) _ _ s
  apply wpAny_bind
  refine wpAny_seqItems ho hd ?_
  dsimp only
  apply wpAny_bind
  show wpAny (model P w) A (forIn its _ _) _ E s
  rw [← Array.forIn_toList]
  refine wpAny_forIn_list _ (fun rest r z => z = s ∧ r.1 = none ∧ ∀ v, v ∈ rest → ∀ n, ofAClassStatement n v = pure false) _ (fun v rest r z hz => ?_) (fun r z hz => ?_) _ _ ⟨rfl, rfl, fun v hv => (pl v hv).1⟩
  · obtain ⟨rfl, hr, all⟩ := hz
    rw [all v List.mem_cons_self]
    apply wpAny_bind
    apply wpAny_pure
    simp only [Bool.false_eq_true, if_false]
    exact wpAny_pure ⟨rfl, rfl, fun u hu => all u (List.mem_cons_of_mem _ hu)⟩
  · obtain ⟨r1, r2⟩ := r
    obtain ⟨rfl, hr, _⟩ := hz
    simp only at hr
    subst hr
    exact wpAny_pure q
theorem value_any {k : TKey} {b : Addr} {Q : Bool → Shared → Prop} (l : Lies P w s.heap k b) (q : ∀ y, Q y s) : wpAny (model P w) A (hashByValue 8 (.ref b)) Q E s := by
  have ty := l.typeIs
  obtain ⟨o, its, n, ho, _, hd, hi⟩ := l
  have pl := item_plain hi
  unfold hashByValue
  apply wpAny_bind
  refine wpAny_specialOf ty F.slot_tuple_hash.lookup ?_
  show wpAny _ _ (seqItems? (Value.ref b) >>= _) _ _ s
  apply wpAny_bind
  refine wpAny_seqItems ho hd ?_
  apply wpAny_bind
  show wpAny (model P w) A (forIn its _ _) _ E s
  rw [← Array.forIn_toList]
  refine wpAny_forIn_list _ (fun rest r z => z = s ∧ r.1 = none ∧ ∀ v, v ∈ rest → ∀ n, ∃ y, hashByValue n v = pure y) _ (fun v rest r z hz => ?_) (fun r z hz => ?_) _ _ ⟨rfl, rfl, fun v hv => (pl v hv).2⟩
  · obtain ⟨rfl, hr, all⟩ := hz
    obtain ⟨y, e⟩ := all v List.mem_cons_self 7
    rw [e]
    apply wpAny_bind
    apply wpAny_pure
    cases y with
    | true =>
      simp only [Bool.not_true, Bool.false_eq_true, if_false]
      exact wpAny_pure ⟨rfl, rfl, fun u hu => all u (List.mem_cons_of_mem _ hu)⟩
    | false =>
      simp only [Bool.not_false, if_true]
      exact wpAny_pure (wpAny_pure (q false))
  · obtain ⟨r1, r2⟩ := r
    obtain ⟨rfl, hr, _⟩ := hz
    simp only at hr
    subst hr
    exact wpAny_pure (q true)
/-- no search among keys can be seen -/
theorem unseen {k : TKey} {b : Addr} {Q : Bool → Shared → Prop} (l : Lies P w s.heap k b) {ys : List Value} (hy : ∀ y, y ∈ ys → ∃ k' c, y = Value.ref c ∧ Lies P w s.heap k' c) (q : Q false s) : wpAny (model P w) A (searchCouldBeSeen (.ref b) ys) Q E s := by
  unfold searchCouldBeSeen
  apply wpAny_bind
  refine wpAny_forIn_list _ (fun rest r z => z = s ∧ r.1 = none ∧ ∀ y, y ∈ rest → ∃ k' c, y = Value.ref c ∧ Lies P w s.heap k' c) _ (fun v rest r z hz => ?_) (fun r z hz => ?_) _ _ ⟨rfl, rfl, hy⟩
  · obtain ⟨rfl, hr, all⟩ := hz
    obtain ⟨k', c, rfl, lc⟩ := all v List.mem_cons_self
    have more : ∀ y, y ∈ rest → ∃ k' c, y = Value.ref c ∧ Lies P w z.heap k' c := fun u hu => all u (List.mem_cons_of_mem _ hu)
    dsimp only
    by_cases hv : (b == c || (carriedByValue (.ref b) && carriedByValue (.ref c))) = true
    · exact wp_if_pos hv (wpAny_pure ⟨rfl, rfl, more⟩)
    · refine wp_if_neg hv ?_
      apply wpAny_bind
      refine wpAny_eqIsQuiet_tuple l ?_
      simp only [Bool.not_true, Bool.false_eq_true, if_false]
      apply wpAny_bind
      refine wpAny_eqIsQuiet_tuple lc ?_
      simp only [Bool.not_true, Bool.false_eq_true, if_false]
      apply wpAny_bind
      refine class_no l ?_
      simp only [Bool.false_eq_true, if_false]
      apply wpAny_bind
      refine class_no lc ?_
      simp only [Bool.false_eq_true, if_false]
      exact wpAny_pure ⟨rfl, rfl, more⟩
  · obtain ⟨r1, r2⟩ := r
    obtain ⟨rfl, hr, _⟩ := hz
    simp only at hr
    subst hr
    exact wpAny_pure q
/-! ### the table -/
/-- the entries of these keys -/
def ents (P : Program) (w : World) (L : List (Addr × TKey)) : List (Int × Value) := L.map fun p => (hz P w p.2, Value.ref p.1)
/-- their hashes -/
abbrev hzs (P : Program) (w : World) (L : List (Addr × TKey)) : List Int := L.map fun p => hz P w p.2
/-- a set of keys at a -/
structure Set (P : Program) (w : World) (h : Heap) (a : Addr) (L : List (Addr × TKey)) (es : Array (Int × Value)) (ep : Nat) (t : SetTable) : Prop where
  ob : ∃ o, h.get? a = some o ∧ o.ExactSet ∧ o.data = .set es ep t
  en : es.toList = ents P w L
  tb : TabOk t (hzs P w L)
  nd : (L.map (·.2)).Nodup
  ly : ∀ p, p ∈ L → Lies P w h p.2 p.1
  ld : w.params.followText "set-order" = true ∨ t.led = true
  rm : L.length * 5 < t.mask * 3
  fw : L.length < 64
variable {a : Addr} {L : List (Addr × TKey)} {es : Array (Int × Value)} {ep : Nat} {t : SetTable}
theorem ents_size {es : Array (Int × Value)} {L : List (Addr × TKey)} (e : es.toList = ents P w L) : es.size = L.length := by
  rw [← Array.length_toList, e]
  exact List.length_map _
theorem Set.sz (S : Set P w s.heap a L es ep t) : es.size = L.length := ents_size S.en
theorem Set.fit (S : Set P w s.heap a L es ep t) : t.fits es.size = true := by
  have x1 := S.tb.sz
  have x2 := S.sz
  have x3 := S.rm
  rw [List.length_map] at x1
  unfold SetTable.fits SetTable.fill
  rw [S.tb.dm, Bool.and_eq_true, beq_iff_eq, decide_eq_true_eq, x1, x2]
  refine ⟨rfl, ?_⟩
  show L.length + 0 ≤ t.mask
  omega
theorem Set.ent (S : Set P w s.heap a L es ep t) {i : Nat} {p : Addr × TKey} (e : L[i]? = some p) : es[i]? = some (hz P w p.2, Value.ref p.1) := by
  rw [← Array.getElem?_toList, S.en, ents, List.getElem?_map, e]
  rfl
theorem Set.gw (S : Set P w s.heap a L es ep t) : ¬ t.gaveWay = true := by
  unfold SetTable.gaveWay
  rw [mask_odd S.tb.mok]
  decide
/-- the way of a search from its c-th step on -/
abbrev step (m : Nat) (h : Int) (c : Nat) : SetTable.Probe := nth m (runAt m (SetTable.bits h % (m + 1)) (SetTable.bits h)) c
theorem step_j (m : Nat) (h : Int) (c q : Nat) : (nth m (step m h c) q).j = way m h (c + q) := congrArg SetTable.Probe.j (nth_add m c _ q).symm
theorem step_dummy (m : Nat) : ∀ (n : Nat) (p : SetTable.Probe), p.dummy = none → (nth m p n).dummy = none
  | 0, _, e => e
  | n + 1, p, e => step_dummy m n (adv m p) (by unfold adv; split <;> exact e)
/-- the next of equal hash, or the empty slot -/
theorem look {hs : List Int} (T : TabOk t hs) {f : Nat → Int} (hf : ∀ (i : Nat) (h' : Int), hs[i]? = some h' → f i = h') (h : Int) {K c : Nat} (hKf : K < 10 * SetTable.turns t.mask) (hK : way t.mask h K ∉ t.place.toList)
    (hb : ∀ k, k < K → way t.mask h k ∈ t.place.toList) (hc : c ≤ K) :
    (∃ (q i : Nat), c ≤ q ∧ q < K ∧ t.place.toList[i]? = some (way t.mask h q) ∧ (∀ (q' i' : Nat), c ≤ q' → q' < q → t.place.toList[i']? = some (way t.mask h q') → hs[i']? ≠ some h) ∧ t.probe f h (step t.mask h c) = some (.candidate (way t.mask h q) i (step t.mask h (q + 1)))) ∨
    ((∀ (q' i' : Nat), c ≤ q' → q' < K → t.place.toList[i']? = some (way t.mask h q') → hs[i']? ≠ some h) ∧ t.probe f h (step t.mask h c) = some (.empty (way t.mask h K) none)) := by
  have back : ∀ i' : Nat, hs[i']? = some h → f i' = h := fun i' e => hf i' h e
  have spec := go_spec t T.ris T.dm f h (10 * SetTable.turns t.mask) (K - c) (step t.mask h c) (step_dummy _ _ _ rfl) (by omega)
    (fun q hq => by rw [step_j]; exact hb (c + q) (by omega)) (by rw [step_j, show c + (K - c) = K by omega]; exact hK)
  rcases spec with ⟨q, i, hq, hi, _, no, pr⟩ | ⟨no, pr⟩
  · rw [step_j] at hi pr
    rw [show nth t.mask (step t.mask h c) (q + 1) = step t.mask h (c + q + 1) from (nth_add t.mask c _ (q + 1)).symm] at pr
    exact .inl ⟨c + q, i, Nat.le_add_right _ _, by omega, hi, fun q' i' h1 h2 e z => no (q' - c) i' (by omega) (by rw [step_j, show c + (q' - c) = q' by omega]; exact e) (back i' z), pr⟩
  · rw [step_j, show c + (K - c) = K by omega] at pr
    exact .inr ⟨fun q' i' h1 h2 e z => no (q' - c) i' (by omega) (by rw [step_j, show c + (q' - c) = q' by omega]; exact e) (back i' z), pr⟩
/-- the search from the c-th step on: k lies at b -/
theorem seek (S : Set P w s.heap a L es ep t) {b : Addr} {k : TKey} (lk : Lies P w s.heap k b) (hu : A.units < cLine) {K : Nat} (hKf : K < 10 * SetTable.turns t.mask) (hK : way t.mask (hz P w k) K ∉ t.place.toList)
    (hb : ∀ c, c < K → way t.mask (hz P w k) c ∈ t.place.toList) {Q : SetFound → Shared → Prop} (yes : k ∈ L.map (·.2) → Q (.there none) s) (no : k ∉ L.map (·.2) → Q (.free (way t.mask (hz P w k) K) false) s) :
    ∀ (f c : Nat) (stand : Option SetTable.Probe), stand.getD (t.probeStart (hz P w k)) = step t.mask (hz P w k) c → c ≤ K → K - c < f →
      (∀ (i : Nat) p, L[i]? = some p → p.2 = k → ∃ q, c ≤ q ∧ q < K ∧ t.place.toList[i]? = some (way t.mask (hz P w k) q)) → wpAny (model P w) A (setSearchFrom a (.ref b) (hz P w k) true f stand) Q E s
  | 0, c, stand, _, _, hf, _ => absurd hf (Nat.not_lt_zero _)
  | f + 1, c, stand, st, hc, hf, ahead => by
    obtain ⟨o, ho, ex, hd⟩ := S.ob
    have hsAt : ∀ (i : Nat) (p : Addr × TKey), L[i]? = some p → (hzs P w L)[i]? = some (hz P w p.2) := fun i p e => by
      rw [List.getElem?_map, e]
      rfl
    have hf2 : ∀ (i : Nat) (h' : Int), (hzs P w L)[i]? = some h' → (fun i : Nat => (es[i]?.map (·.1)).getD 0) i = h' := fun i h' e => by
      rw [List.getElem?_map] at e
      cases hp : L[i]? with
      | none =>
        rw [hp] at e
        cases e
      | some p =>
        rw [hp] at e
        show (es[i]?.map (·.1)).getD 0 = h'
        rw [S.ent hp]
        exact Option.some.inj e
    rw [setSearchFrom_succ]
    apply wpAny_bind
    refine wpAny_setState_of ho hd S.fit ?_
    dsimp only
    refine wp_if_neg S.gw ?_
    (try (apply wpAny_bind; apply wpAny_pure))
    rw [st]
    rcases look S.tb hf2 (hz P w k) hKf hK hb hc with ⟨q, i, q1, q2, hi, none', pr⟩ | ⟨none', pr⟩
    · rw [pr]
      dsimp only
      have il : i < L.length := by
        have z := (List.getElem?_eq_some_iff.mp hi).1
        have y := S.tb.sz
        rw [List.length_map] at y
        rw [Array.length_toList] at z
        omega
      obtain ⟨p, hp⟩ : ∃ p, L[i]? = some p := ⟨_, List.getElem?_eq_getElem il⟩
      have pm : p ∈ L := List.mem_of_getElem? hp
      have go : wpAny (model P w) A (searchRest a (.ref b) (hz P w k) true f es t (way t.mask (hz P w k) q) i (step t.mask (hz P w k) (q + 1))) Q E s := by
        unfold searchRest
        rw [S.ent hp]
        dsimp only
        apply wpAny_bind
        apply wpAny_holding
        refine wpAny_eqBool_tuple hu (S.ly p pm) lk ?_
        apply wpAny_bind
        refine wpAny_setState_of ho hd S.fit ?_
        dsimp only
        by_cases same : p.2 = k
        · exact wp_if_pos (by simp [same]) (wpAny_pure (yes (List.mem_map.mpr ⟨p, pm, same⟩)))
        · refine wp_if_neg (by simp [same]) ?_
          (try (apply wpAny_bind; apply wpAny_pure))
          rw [sameMem]
          dsimp only
          have sl : t.slot (way t.mask (hz P w k) q) = .live i := slot_live S.tb.ris hi
          simp only [if_true, sl, S.ent hp]
          apply wpAny_bind
          refine wpAny_isSame_ref_self ?_
          apply wpAny_bind
          apply wpAny_pure
          simp only [if_true]
          refine wp_if_neg (by simp [same]) ?_
          refine seek S lk hu hKf hK hb yes no f (q + 1) _ rfl (by omega) (by omega) fun i0 p0 h0 k0 => ?_
          obtain ⟨c', a1, a2, a3⟩ := ahead i0 p0 h0 k0
          refine ⟨c', Nat.succ_le_of_lt ?_, a2, a3⟩
          rcases Nat.lt_trichotomy c' q with z | z | z
          · exact absurd (by rw [hsAt i0 p0 h0, k0]) (none' c' i0 a1 z a3)
          · rw [z] at a3
            have s0 := slot_live S.tb.ris a3
            rw [sl] at s0
            cases s0
            rw [hp] at h0
            cases h0
            exact absurd k0 same
          · exact z
      by_cases hl : t.led = true
      · refine wp_if_neg (by simp [hl]) ?_
        (try (apply wpAny_bind; apply wpAny_pure))
        exact go
      · refine wp_if_pos (by simp [hl]) ?_
        apply wpAny_bind
        refine unseen lk (fun y hy => ?_) ?_
        · obtain ⟨e, he, ee⟩ := List.mem_map.mp hy
          have he2 : e ∈ es.toList := by
            have z : e ∈ es ∧ e.1 = hz P w k := by simpa using he
            simpa using z.1
          rw [S.en] at he2
          obtain ⟨p2, hp2, e2⟩ := List.mem_map.mp he2
          exact ⟨p2.2, p2.1, by rw [← ee, ← e2], S.ly p2 hp2⟩
        · refine wp_if_neg (by decide) ?_
          (try (apply wpAny_bind; apply wpAny_pure))
          exact go
    · rw [pr]
      dsimp only
      refine wpAny_pure (no fun hm => ?_)
      obtain ⟨p0, h0, k0⟩ := List.mem_map.mp hm
      obtain ⟨i0, h00⟩ := List.mem_iff_getElem?.mp h0
      obtain ⟨c', a1, a2, a3⟩ := ahead i0 p0 h00 k0
      exact none' c' i0 a1 a2 a3 (by rw [hsAt i0 p0 h00, k0])
/-- what adding asks -/
theorem seek_at (S : Set P w s.heap a L es ep t) {b : Addr} {k : TKey} (lk : Lies P w s.heap k b) (hu : A.units < cLine) {Q : SetFound → Shared → Prop} (yes : k ∈ L.map (·.2) → Q (.there none) s)
    (no : ∀ K, k ∉ L.map (·.2) → way t.mask (hz P w k) K ∉ t.place.toList → (∀ c, c < K → way t.mask (hz P w k) c ∈ t.place.toList) → Q (.free (way t.mask (hz P w k) K) false) s) :
    wpAny (model P w) A (setSearch a (.ref b) (hz P w k) true) Q E s := by
  have rm := S.rm
  obtain ⟨K, hKf, hK, hb⟩ := S.tb.first (by rw [List.length_map]; omega) (hz P w k)
  have big : K < 100000 := by
    have z : 10 * SetTable.turns t.mask ≤ 1420 := by
      unfold SetTable.turns
      rcases S.tb.mok with e | e | e <;> omega
    omega
  unfold setSearch
  refine seek S lk hu hKf hK hb yes (fun n => no K n hK hb) 100000 0 none rfl (Nat.zero_le _) (by omega) fun i p hp hk => ?_
  have hi : (hzs P w L)[i]? = some (hz P w k) := by
    rw [List.getElem?_map, hp, ← hk]
    rfl
  have il : i < t.place.toList.length := by
    have z := (List.getElem?_eq_some_iff.mp hp).1
    have y := S.tb.sz
    rw [List.length_map] at y
    rw [Array.length_toList]
    omega
  obtain ⟨q, q1, q2⟩ := S.tb.before hK hi (List.getElem?_eq_getElem il)
  exact ⟨q, Nat.zero_le _, q1, by rw [List.getElem?_eq_getElem il, q2]⟩
end
end UA

/-! One more element; the table laid anew. -/
namespace UA
open PySem PySem.Spec PyProof.Rows L2
theorem range_all {α : Type} : ∀ l : List α, (List.range l.length).filterMap (fun i => l[i]?) = l
  | [] => rfl
  | x :: l => by
    rw [List.length_cons, List.range_succ_eq_map, List.filterMap_cons_some (show (fun i : Nat => (x :: l)[i]?) 0 = some x from rfl), List.filterMap_map]
    exact congrArg (x :: ·) (range_all l)
theorem put_some {α : Type} (l : List α) (p : Nat) (x : α) : (l.take p ++ x :: l.drop p).Perm (x :: l) := by
  have z : (l.take p ++ x :: l.drop p).Perm (x :: (l.take p ++ l.drop p)) := List.perm_middle
  rwa [List.take_append_drop] at z
theorem tab_plain {t : SetTable} {hs : List Int} (T : TabOk t hs) (b : Bool) : TabOk { t with plain := b } hs := ⟨T.ris, T.dm, T.sz, T.mok, T.bd, T.reach⟩
section
variable {P : Program} {w : World} {A : Around} {E : Value → Shared → Prop} {s : Shared}
/-- the entries in another order -/
theorem ents_order {L : List (Addr × TKey)} {es : Array (Int × Value)} {order : Array Nat} (he : es.toList = ents P w L) (hp : order.toList.Perm (List.range L.length)) :
    ∃ M, (order.filterMap (es[·]?)).toList = ents P w M ∧ M.Perm L ∧ hzs P w M = order.toList.map fun i => (es.map (·.1)).getD i 0 := by
  have at_ : ∀ i : Nat, es[i]? = (L[i]?).map fun p => (hz P w p.2, Value.ref p.1) := fun i => by
    rw [← Array.getElem?_toList, he, ents, List.getElem?_map]
  refine ⟨order.toList.filterMap fun i => L[i]?, ?_, ?_, ?_⟩
  · rw [Array.toList_filterMap, ents, List.map_filterMap]
    exact congrArg (fun f => List.filterMap f order.toList) (funext at_)
  · have z := hp.filterMap fun i => L[i]?
    rwa [range_all] at z
  · have inside : ∀ i, i ∈ order.toList → i < L.length := fun i hi => List.mem_range.mp (hp.mem_iff.mp hi)
    generalize order.toList = l at inside
    induction l with
    | nil => rfl
    | cons i l ih =>
      have hi := inside i List.mem_cons_self
      have e1 : L[i]? = some L[i] := List.getElem?_eq_getElem hi
      have e2 : (es.map (·.1)).getD i 0 = hz P w L[i].2 := by
        have z : (es.map (·.1))[i]? = some (hz P w L[i].2) := by rw [Array.getElem?_map, at_ i, e1] <;> rfl
        simp [Array.getD_eq_getD_getElem?, z]
      have rest := ih fun j hj => inside j (List.mem_cons_of_mem _ hj)
      rw [List.filterMap_cons_some e1, hzs, List.map_cons, List.map_cons, e2]
      exact congrArg (hz P w L[i].2 :: ·) rest
variable {a : Addr} {L : List (Addr × TKey)} {es : Array (Int × Value)} {ep : Nat} {t : SetTable}
/-- the table is laid anew, larger -/
theorem relay {o : Obj} (ho : s.heap.get? a = some o) (ex : o.ExactSet) (hd : o.data = .set es ep t) (he : es.toList = ents P w L) (sz : t.place.size = es.size) (dm : t.dummies = #[]) (fl : es.size ≤ t.mask) (nd : (L.map (·.2)).Nodup)
    (ly : ∀ p, p ∈ L → Lies P w s.heap p.2 p.1) (ld : w.params.followText "set-order" = true ∨ t.led = true) (fw : L.length < 64) {wanted M : Nat} (e1 : SetTable.sizeAbove wanted - 1 = M) (e2 : MaskOk M) (e3 : SetTable.sizeAbove wanted ≤ 128)
    (e4 : L.length * 5 < M * 3) {Q : Unit → Shared → Prop} (q : ∀ g L' es' ep' t', Heap.SameBut a s.heap g → Set P w g a L' es' ep' t' → L'.Perm L → Q () { s with heap := g }) : wpAny (model P w) A (setRelay a wanted) Q E s := by
  have n := ents_size he
  have ft : t.fits es.size = true := by
    unfold SetTable.fits SetTable.fill
    rw [dm, Bool.and_eq_true, beq_iff_eq, decide_eq_true_eq, sz]
    exact ⟨rfl, fl⟩
  obtain ⟨t', order, r1, r2, T, r3, r4, _, _⟩ := relaid_ok t (hs := es.map (·.1)) e1 e2 (by rw [Array.size_map, n]; omega)
  rw [Array.size_map, n] at r2
  obtain ⟨M', m1, m2, m3⟩ := ents_order he r2
  rw [← m3] at T
  have n2 : (order.filterMap (es[·]?)).size = es.size := by rw [ents_size m1, m2.length_eq, n]
  rw [setRelay_eq]
  apply wpAny_bind
  refine wpAny_setState_of ho hd ft ?_
  dsimp only
  refine wp_if_neg (by rw [sizeLine_eq]; omega) ?_
  (try (apply wpAny_bind; apply wpAny_pure))
  rw [r1]
  dsimp only
  apply wpAny_bind
  refine wp_if_neg (by rw [n2]; simp) ?_
  (try (apply wpAny_bind; apply wpAny_pure))
  apply wpAny_pure
  dsimp only
  refine wpAny_storeSet_of ho hd ?_ (by rw [n2, n, sizeLine_eq]; omega)
  have sb : Heap.SameBut a s.heap (s.heap.update a (Obj.putSet (order.filterMap (es[·]?)) t')) := Heap.SameBut.update s.heap a _
  refine q _ M' _ (ep + 1) t' sb ⟨⟨_, store_at ho hd, ⟨ex.1, ex.2.1, ex.2.2⟩, rfl⟩, m1, T, (m2.map (·.2)).nodup_iff.mpr nd, fun p hp => lies_but (ly p (m2.mem_iff.mp hp)) ho hd sb, ?_, ?_, ?_⟩ m2
  · rw [r4]
    exact ld
  · rw [m2.length_eq, r3]
    exact e4
  · rw [m2.length_eq]
    exact fw
/-- one more, or none where it is in -/
theorem add (S : Set P w s.heap a L es ep t) {b : Addr} {k : TKey} (lk : Lies P w s.heap k b) (hu : A.units < cLine) (fw : L.length + 1 < 64) {Q : Bool → Shared → Prop}
    (q : ∀ y g L' es' ep' t', Heap.SameBut a s.heap g → Set P w g a L' es' ep' t' → (k ∈ L.map (·.2) → L' = L) → (k ∉ L.map (·.2) → L'.Perm ((b, k) :: L)) → Q y { s with heap := g }) :
    wpAny (model P w) A (setAddHashed a (.ref b) (hz P w k)) Q E s := by
  obtain ⟨o, ho, ex, hd⟩ := S.ob
  have n := S.sz
  have rm := S.rm
  unfold setAddHashed
  apply wpAny_holding
  rw [show (100000 : Nat) = 99999 + 1 from rfl, setAddHashedIn_succ]
  apply wpAny_bind
  refine wpAny_setState_of ho hd S.fit ?_
  dsimp only
  refine wp_if_neg (by simp [byScan, Value.scannable]) ?_
  (try (apply wpAny_bind; apply wpAny_pure))
  apply wpAny_bind
  refine seek_at S lk hu (fun hm => ?_) fun K hm hK hb => ?_
  · dsimp only
    exact wpAny_pure (q false s.heap L es ep t (Heap.SameBut.refl a s.heap) S (fun _ => rfl) fun z => absurd hm z)
  dsimp only
  apply wpAny_bind
  refine wpAny_setState_of ho hd S.fit ?_
  dsimp only
  obtain ⟨p1, p2, T, p4, p5, _, p7, p8, p9⟩ := S.tb.put hK hb
  generalize hpt : t.put (way t.mask (hz P w k) K) = pt at p1 T p4 p5 p7 p8 p9 ⊢
  obtain ⟨t1, p⟩ := pt
  dsimp only at p1 T p4 p5 p7 p8 p9 ⊢
  subst p1
  have en1 : (SetTable.insertAt es (SetTable.below t.place (way t.mask (hz P w k) K)) (hz P w k, Value.ref b)).toList = ents P w (L.take (SetTable.below t.place (way t.mask (hz P w k) K)) ++ (b, k) :: L.drop (SetTable.below t.place (way t.mask (hz P w k) K))) := by
    rw [SetTable.toList_insertAt, S.en, ents, ents, List.map_append, List.map_cons, List.map_take, List.map_drop]
  generalize SetTable.below t.place (way t.mask (hz P w k) K) = p at p2 T en1 ⊢
  have pm := put_some L p (b, k)
  have T1 : TabOk t1 (hzs P w (L.take p ++ (b, k) :: L.drop p)) := by
    rw [hzs, List.map_append, List.map_cons, List.map_take, List.map_drop]
    exact T
  have nd1 : ((L.take p ++ (b, k) :: L.drop p).map (·.2)).Nodup := (pm.map (·.2)).nodup_iff.mpr (List.nodup_cons.mpr ⟨hm, S.nd⟩)
  have l1 : (L.take p ++ (b, k) :: L.drop p).length = L.length + 1 := pm.length_eq
  have n1 := ents_size en1
  generalize SetTable.insertAt es p (hz P w k, Value.ref b) = es1 at en1 n1 ⊢
  generalize L.take p ++ (b, k) :: L.drop p = L1 at pm T1 nd1 l1 en1 n1
  have fin : ∀ t2 : SetTable, TabOk t2 (hzs P w L1) → t2.mask = t.mask → t2.led = t.led → t2.fill = L.length + 1 →
      wpAny (model P w) A (do
        storeSet a es1 t2
        if (!false && t2.tooFull) = true then do
            setRelay a (SetTable.grown (es.size + 1))
            pure true
          else pure true) Q E s := fun t2 T2 k1 k2 k3 => by
    apply wpAny_bind
    refine wpAny_storeSet_of ho hd ?_ (by rw [n1, l1, sizeLine_eq]; omega)
    have sb := Heap.SameBut.update s.heap a (Obj.putSet es1 t2)
    have ho1 := store_at (es' := es1) (t' := t2) ho hd
    generalize s.heap.update a (Obj.putSet es1 t2) = h1 at sb ho1 ⊢
    have ly1 : ∀ p, p ∈ L1 → Lies P w h1 p.2 p.1 := fun p hp => by
      rcases List.mem_cons.mp (pm.mem_iff.mp hp) with rfl | hp
      · exact lies_but lk ho hd sb
      · exact lies_but (S.ly p hp) ho hd sb
    have ld1 : w.params.followText "set-order" = true ∨ t2.led = true := by
      rw [k2]
      exact S.ld
    by_cases full : t2.tooFull = true
    · refine wp_if_pos (by simp [full]) ?_
      have f1 : (L.length + 1) * 5 ≥ t2.mask * 3 := by
        unfold SetTable.tooFull at full
        rw [decide_eq_true_eq, k3] at full
        exact full
      rw [k1] at f1
      have two : (t.mask = 7 ∧ L.length = 4) ∨ (t.mask = 31 ∧ L.length = 18) := by
        rcases S.tb.mok with e | e | e
        · rw [e] at f1 rm
          exact .inl ⟨e, by omega⟩
        · rw [e] at f1 rm
          exact .inr ⟨e, by omega⟩
        · rw [e] at f1 rm
          omega
      have sz2 : t2.place.size = es1.size := by
        have z := T2.sz
        rw [List.length_map] at z
        rw [z, n1]
      rw [n]
      have go : ∀ M, SetTable.sizeAbove (SetTable.grown (L.length + 1)) - 1 = M → MaskOk M → SetTable.sizeAbove (SetTable.grown (L.length + 1)) ≤ 128 → (L.length + 1) * 5 < M * 3 →
          wpAny (model P w) A (setRelay a (SetTable.grown (L.length + 1)) >>= fun _ => pure true) Q E { s with heap := h1 } := fun M g1 g2 g3 g4 => by
        apply wpAny_bind
        refine relay (s := { s with heap := h1 }) ho1 ⟨ex.1, ex.2.1, ex.2.2⟩ rfl en1 sz2 T2.dm (by rw [n1, l1, k1]; rcases two with ⟨e, e'⟩ | ⟨e, e'⟩ <;> omega) nd1 ly1 ld1 (by rw [l1]; exact fw) g1 g2 g3 (by rw [l1]; exact g4)
          fun g L2 es2 ep2 t3 sb2 S2 pm2 => wpAny_pure (q true g L2 es2 ep2 t3 (sb.trans sb2) S2 (fun z => absurd z hm) fun _ => pm2.trans pm)
      rcases two with ⟨_, e⟩ | ⟨_, e⟩
      · exact go 31 (by rw [e, size_20]) (.inr (.inl rfl)) (by rw [e, size_20]; decide) (by omega)
      · exact go 127 (by rw [e, size_76]) (.inr (.inr rfl)) (by rw [e, size_76]; decide) (by omega)
    · refine wp_if_neg (by simp [full]) ?_
      refine wpAny_pure (q true h1 L1 es1 (ep + 1) t2 sb ⟨⟨_, ho1, ⟨ex.1, ex.2.1, ex.2.2⟩, rfl⟩, en1, T2, nd1, ly1, ld1, ?_, by rw [l1]; exact fw⟩ (fun z => absurd z hm) fun _ => pm)
      unfold SetTable.tooFull at full
      rw [decide_eq_true_eq, k3] at full
      rw [l1]
      omega
  have f9 : t1.fill = L.length + 1 := by rw [p9, List.length_map]
  -- whether the table stays plain does not matter
  by_cases pl : t1.plain = true
  · refine wp_if_pos pl ?_
    apply wpAny_bind
    refine value_any lk fun y => ?_
    cases y with
    | true => exact fin t1 T1 p4 p5 f9
    | false => exact fin { t1 with plain := false } (tab_plain T1 false) p4 p5 f9
  · refine wp_if_neg pl ?_
    apply wpAny_bind
    apply wpAny_pure
    exact fin t1 T1 p4 p5 f9
end
end UA

/-! set(a list of ints), to be sorted: the library knows this call for tuples only, and as len(set(..)). -/
namespace SI
open PySem PySem.Spec PyProof.Rows L2 GR
/-- what set.__new__ makes -/
abbrev bare (w : World) : Obj := { cls := .type "set", dict := none, data := .set #[] 0 (.fresh 0 0 (!w.params.followText "set-order")) }
section
variable {P : Program} {w : World} {A : Around} {E : Value → Shared → Prop} {s : Shared}
/-- the state behind set.__new__ -/
abbrev made (w : World) (s : Shared) : Shared := { s with heap := s.heap.push (bare w) }
/-- behind set.__init__: the ints of the list, what lay there before lies there -/
def Filled (w : World) (s : Shared) (ns : List Int) (s₂ : Shared) : Prop := ∃ h' tk c, s₂ = { s with heap := h', toks := tk } ∧ SetR w h' s.heap.objs.size (fun j => decide (j ∈ ns)) c ∧ c ≤ ns.length ∧ ∀ b o, s.heap.get? b = some o → h'.get? b = some o
theorem at_made : (made w s).heap.get? s.heap.objs.size = some (bare w) := Heap.get?_push_size _ rfl
theorem item_ints {items : Array Value} {ns : List Int} (hit : IntsAre items.toList ns) (i : Nat) (v : Value) (hv : items[i]? = some v) : ∃ k t, ns[i]? = some k ∧ v = .int k t := by
  have hl := IntsAre.length hit
  rw [Array.length_toList] at hl
  have hi : i < ns.length := hl ▸ (Array.getElem?_eq_some_iff.mp hv).1
  obtain ⟨t, e⟩ := PyProof.Rows.IntsAre.int_at hit i v (by rw [Array.getElem?_toList]; exact hv)
  exact ⟨ns[i], t, List.getElem?_eq_getElem hi, by rw [e, List.getD_eq_getElem?_getD, List.getElem?_eq_getElem hi] <;> rfl⟩
/-- set(l) -/
theorem call_set_ints {l : Addr} {items : Array Value} {ns : List Int} {Q : Value → Shared → Prop} (hh : A.handled = none) (hl : s.heap.IsList l items) (hit : IntsAre items.toList ns) (hb : ns.length + 1 < scanBound)
    (q : ∀ s₂, Filled w s ns s₂ → Q (.ref s.heap.objs.size) s₂) : wpAny (model P w) A (call (.type "set") [.ref l]) Q E s := by
  have K := F.called_set
  obtain ⟨c, tl, hmro⟩ := K.mro
  have m1 := K.made
  have m2 := K.sub
  have m3 := K.notType
  have m4 := K.canCreate
  have m5 := F.typeCall_set_1 (.ref l)
  refine wpAny_call (codeAny_of_tree (show wpAny _ _ (callAny (.type "set") _) _ _ _ from wpAny_pure ⟨Code.quiet_builtin _ (by decide +kernel), codeAny_builtin F.entry_type_call ?_⟩))
  rw [Around.under_plain (weight_type_call_type "set" [.ref l] []) rfl]
  repeat (any_goals (first | assumption | wp_step))
  refine codeAny_mono (code_set_led1 (.ref l) (E := E) (Q₁ := fun u s₁ => u = .ref s.heap.objs.size ∧ s₁ = made w s) ⟨rfl, rfl⟩) fun r s₁ hr => ?_
  rcases r with e | fl
  · exact hr
  cases fl with
  | ret u =>
    obtain ⟨rfl, rfl⟩ := hr
    have hS := at_made (w := w) (s := s)
    have hT : Shared.TypeIs (made w s) (.ref s.heap.objs.size) "set" := ⟨_, hS, rfl⟩
    have m6 := K.init.lookup
    have m7 := K.init.bind (.ref s.heap.objs.size)
    repeat (any_goals (first | assumption | wp_step))
    refine codeAny_mono (codeAny_call_builtin (R := wants (fun r s₂ => r = .none ∧ Filled w s ns s₂) E) K.init.plain F.entry_set_init (check_set_init_1 hT ?_)) fun r₂ s₂ hr₂ => ?_
    · have hlen : items.size = ns.length := by
        have := IntsAre.length hit
        rwa [Array.length_toList] at this
      obtain ⟨⟨oc, od, ot, os⟩, hol, hcl, nl, hdl⟩ := hl
      simp only at hcl hdl
      subst hcl
      subst hdl
      have hlS : l < s.heap.objs.size := Heap.lt_size hol
      have hl1 : (made w s).heap.IsList l items := ⟨_, Heap.get?_push_of_some _ hol, rfl, nl, rfl⟩
      have hol' : (made w s).heap.get? l = some { cls := .type "list", dict := od, data := .seq items nl, slots := os } := Heap.get?_push_of_some _ hol
      have m8 := F.sub_list_set
      have m9 := F.sub_list_frozenset
      have m10 : (Value.type "list" == Value.type "dict") = false := by decide
      unfold Builtin.«set.__init__» noKeywords Builtin.Frozenset.updateFrom
      generalize hPI : pyIter = PI
      wp_walk
      subst hPI
      refine wpAny_pyIter_list hl1 (wpAny_bind (wpAny_runValue ?_))
      have hn : (made w s).heap.objs.size = s.heap.objs.size + 1 := Heap.size_push ..
      have far : s.heap.objs.size ∉ [(made w s).heap.objs.size, l] := by
        rw [hn]
        simp only [List.mem_cons, List.not_mem_nil, or_false, not_or]
        exact ⟨Nat.ne_of_lt (Nat.lt_succ_self _), Nat.ne_of_gt hlS⟩
      refine set_update_ints ((Walks.list (A := A.in1.in1.in1) (by simp [hh]) _ l (by rw [hn]; exact Nat.ne_of_lt (Nat.lt_succ_of_lt hlS)) items).toS) s.heap.objs.size far ns hlen hb (item_ints hit) (items.size - 0) 0 _ (by omega) (Nat.zero_le _)
        ⟨⟨_, Heap.get?_push_size _ rfl, rfl, rfl⟩, hl1.push _⟩ ⟨0, Nat.le_refl 0, setR_new_at (Heap.get?_push_of_some _ hS)⟩ ?_
      intro s' c' hm hc' hS'
      obtain ⟨h', g2, d', tk', os'⟩ := s'
      obtain rfl : g2 = s.gens := hm.gens
      obtain rfl : d' = s.drawn := hm.drawn
      obtain rfl : os' = s.os := hm.os
      show wpAny _ _ _ _ _ _
      refine wpAny_pure (show wpAny _ _ (ret Value.none) _ _ _ from wpAny_pure ⟨rfl, h', tk', c', rfl, hS', hlen ▸ hc', fun b o e => hm.heap b o ?_ (Heap.get?_push_of_some _ (Heap.get?_push_of_some _ e))⟩)
      have hb0 : b < s.heap.objs.size := Heap.lt_size e
      rw [hn]
      simp only [List.mem_cons, List.not_mem_nil, or_false, not_or]
      exact ⟨Nat.ne_of_lt hb0, Nat.ne_of_lt (Nat.lt_succ_of_lt hb0)⟩
    · rcases r₂ with e | fl
      · exact hr₂
      cases fl with
      | ret u =>
        obtain ⟨rfl, hF⟩ := hr₂
        repeat (any_goals (first | assumption | wp_step))
        exact q _ hF
      | _ => exact hr₂.elim
  | _ => exact hr.elim
end
section
variable {X : Cx}
/-- set(xs), xs a list of ints -/
def rSetI (K : PySem.W.Frag) (w : World) : List V → Hp → VK → Prop := fun xs H Q => ∃ (l : Addr) (ns : List Int), xs = [.ref l] ∧ SqL K H l (ns.map V.int) ∧ ns.length ≤ 1000 ∧
  ∀ (a : Addr) (c : Nat), H a = none → c ≤ ns.length → Q (.ref a) (upd H a (SetO w a (fun j => decide (j ∈ ns)) c))
theorem cr_setI (hc : X.calm = true) : CallR X (.type "set") (rSetI X.K X.w) := by
  intro pins s σ H xs us Q I r h
  obtain ⟨l, ns, rfl, hl, hn, q⟩ := h
  rw [Vals.ref1 r]
  obtain ⟨its, rv, pl, hz⟩ := I.list hl
  refine call_set_ints (ns := ns) (I.ok.hd hc) pl.isList (by simpa using ints_of_vals rv) (by unfold scanBound; omega) fun s₂ ⟨h', tk, c, e, R, hcn, k⟩ => ?_
  subst e
  exact ⟨.ref s.heap.objs.size, upd H s.heap.objs.size (SetO X.w s.heap.objs.size (fun j => decide (j ∈ ns)) c), I.laid (t' := tk) k (Nat.le_refl _) (setO_new R), rfl, q _ c (I.hok.fresh (Nat.le_refl _)) hcn⟩
end
end SI

/-! set(a list of tuples of texts and ints). -/
namespace UA
open PySem PySem.Spec PyProof.Rows L2
/-- what has come of the first i of these keys -/
def From (ks : List (Addr × TKey)) (i : Nat) (L : List (Addr × TKey)) : Prop := (∀ p, p ∈ L → p ∈ ks.take i) ∧ ∀ p, p ∈ ks.take i → p.2 ∈ L.map (·.2)
theorem From.next {ks L L' : List (Addr × TKey)} {i : Nat} {x : Addr × TKey} (g : From ks i L) (hx : ks[i]? = some x) (h1 : x.2 ∈ L.map (·.2) → L' = L) (h2 : x.2 ∉ L.map (·.2) → L'.Perm (x :: L)) : From ks (i + 1) L' := by
  have tk : ks.take (i + 1) = ks.take i ++ [x] := by rw [List.take_add_one, hx]; rfl
  rw [From, tk]
  rcases Classical.em (x.2 ∈ L.map (·.2)) with c | c
  · rw [h1 c]
    refine ⟨fun p hp => List.mem_append_left _ (g.1 p hp), fun p hp => ?_⟩
    rcases List.mem_append.mp hp with z | z
    · exact g.2 p z
    · rw [List.mem_singleton.mp z]
      exact c
  · have pm := h2 c
    refine ⟨fun p hp => ?_, fun p hp => ?_⟩
    · rcases List.mem_cons.mp (pm.mem_iff.mp hp) with rfl | z
      · exact List.mem_append_right _ List.mem_cons_self
      · exact List.mem_append_left _ (g.1 p z)
    · rw [(pm.map (·.2)).mem_iff, List.map_cons]
      rcases List.mem_append.mp hp with z | z
      · exact List.mem_cons_of_mem _ (g.2 p z)
      · rw [List.mem_singleton.mp z]
        exact List.mem_cons_self
/-- all that are unlike are few -/
def Few (ks : List (Addr × TKey)) : Prop := ∀ M : List TKey, M.Nodup → (∀ k, k ∈ M → k ∈ ks.map (·.2)) → M.length ≤ 62
section
variable {P : Program} {w : World} {A : Around} {E : Value → Shared → Prop} {s : Shared}
theorem Set.on {h g : Heap} {a : Addr} {L : List (Addr × TKey)} {es : Array (Int × Value)} {ep : Nat} {t : SetTable} (S : Set P w h a L es ep t) (ha : ∀ o, h.get? a = some o → g.get? a = some o) (hl : ∀ p, p ∈ L → Lies P w g p.2 p.1) : Set P w g a L es ep t := by
  obtain ⟨⟨o, ho, r⟩, h2, h3, h4, _, h6, h7, h8⟩ := S
  exact ⟨⟨o, ha o ho, r⟩, h2, h3, h4, hl, h6, h7, h8⟩
theorem set_new {h : Heap} {a : Addr} (ho : h.get? a = some (SI.bare w)) : Set P w h a [] #[] 0 (.fresh 0 0 (!w.params.followText "set-order")) := by
  refine ⟨⟨_, ho, ⟨rfl, rfl, rfl⟩, rfl⟩, rfl, ⟨.nil, rfl, rfl, .inl rfl, fun x hx => (nomatch hx), fun i h j hi => by simp at hi⟩, .nil, fun p hp => (nomatch hp), ?_, by show 0 * 5 < 7 * 3; decide, by decide⟩
  show w.params.followText "set-order" = true ∨ (!w.params.followText "set-order") = true
  cases w.params.followText "set-order"
  · exact .inr rfl
  · exact .inl rfl
theorem set_loop {I : Addr} {fp wr : List Addr} {G : Array GenState → Array GenState → Prop} {n : Nat} {Pv : Nat → Value → Prop} {St : Nat → Shared → Prop} {R : Result → Shared → Prop} (W : WalksS P w A.in1 I fp wr G n Pv St) (S : Addr) (far : S ∉ fp)
    (ks : List (Addr × TKey)) (hn : n = ks.length) (few : Few ks) (val : ∀ i v, Pv i v → ∃ p, ks[i]? = some p ∧ v = .ref p.1) (g0 : Heap) (ly : ∀ p, p ∈ ks → Lies P w g0 p.2 p.1) (nS : g0.get? S = none) (nw : ∀ b, b ∈ wr → g0.get? b = none) (hu : A.in1.units < cLine) :
    ∀ (m i : Nat) (s : Shared), n - i = m → i ≤ n → St i s → (∀ b o, g0.get? b = some o → s.heap.get? b = some o) → (∃ L es ep t, Set P w s.heap S L es ep t ∧ From ks i L) →
      (∀ s' L es ep t, Moved (S :: wr) G s s' → Set P w s'.heap S L es ep t → From ks n L → R (.ok (.ret .none)) s') → codeAny (model P w) A (.builtin "set.update.loop" ⟨[.ref S, .ref I], []⟩) R s
  | 0, i, s, hm, hi, st, old, ⟨L, es, ep, t, hS, g⟩, q => by
    obtain rfl : i = n := by omega
    refine codeAny_builtin F.entry_set_update_loop ?_
    rw [Around.under_plainId F.plain_set_update_loop _]
    show wpAny _ A.in1 (pyNext (.ref I) >>= _) _ _ s
    apply wpAny_bind
    refine W.done s _ _ st fun s' mv => ?_
    have old' : ∀ b o, g0.get? b = some o → s'.heap.get? b = some o := fun b o e => mv.heap b o (fun z => by rw [nw b z] at e; cases e) (old b o e)
    exact wpAny_pure (q s' L es ep t (mv.mono fun b hb => List.mem_cons_of_mem _ hb) (hS.on (fun o e => mv.heap S o (fun z => far (W.sub _ z)) e) fun p hp => lies_keep (ly p (List.mem_of_mem_take (g.1 p hp))) old') g)
  | m + 1, i, s, hm, hi, st, old, ⟨L, es, ep, t, hS, g⟩, q => by
    have lt : i < n := by omega
    refine codeAny_builtin F.entry_set_update_loop ?_
    rw [Around.under_plainId F.plain_set_update_loop _]
    show wpAny _ A.in1 (pyNext (.ref I) >>= _) _ _ s
    apply wpAny_bind
    refine W.item i s _ _ lt st fun v s' hv st' mv => ?_
    obtain ⟨p, hp, rfl⟩ := val i v hv
    have old' : ∀ b o, g0.get? b = some o → s'.heap.get? b = some o := fun b o e => mv.heap b o (fun z => by rw [nw b z] at e; cases e) (old b o e)
    have hS' : Set P w s'.heap S L es ep t := hS.on (fun o e => mv.heap S o (fun z => far (W.sub _ z)) e) fun p hp => lies_keep (ly p (List.mem_of_mem_take (g.1 p hp))) old'
    have lp := lies_keep (ly p (List.mem_of_getElem? hp)) old'
    have fw := few (L.map (·.2)) hS'.nd fun k hk => by
      obtain ⟨p, hp, rfl⟩ := List.mem_map.mp hk
      exact List.mem_map.mpr ⟨p, List.mem_of_mem_take (g.1 p hp), rfl⟩
    rw [List.length_map] at fw
    show wpAny _ A.in1 (holding [Value.ref p.1] (setAdd S (.ref p.1)) >>= _) _ _ s'
    apply wpAny_bind
    apply wpAny_holding
    unfold setAdd
    apply wpAny_holding
    apply wpAny_bind
    refine wpAny_pyHash_tuple hu lp ?_
    refine add (s := { s' with toks := s'.toks + (p.2.length + 1) }) hS' lp hu (by omega) fun y h' L' es' ep' t' sb hS2 c1 c2 => ?_
    have old2 : ∀ b o, g0.get? b = some o → h'.get? b = some o := fun b o e => (sb.2 b (fun z => by rw [z, nS] at e; cases e)).trans (old' b o e)
    refine wpAny_pure ⟨plainId_quiet F.plain_set_update_loop _, set_loop W S far ks hn few val g0 ly nS nw hu m (i + 1) _ (by omega) lt (W.frame _ s' _ _ st' (Nat.le_add_right _ _) fun b hb o e => ?_) old2 ⟨L', es', ep', t', hS2, g.next hp c1 c2⟩
      fun s'' L2 es2 ep2 t2 mv2 hS3 g2 => q s'' L2 es2 ep2 t2 (Moved.trans W.gtrans ((mv.mono fun b hb => List.mem_cons_of_mem _ hb).then_heap (Nat.le_add_right _ _) fun b o hb e => ?_) mv2) hS3 g2⟩
    · rw [sb.2 b fun z => far (z ▸ hb)]
      exact e
    · rw [sb.2 b fun z => hb (z ▸ List.mem_cons_self)]
      exact e
/-- behind set(l) -/
def Full (P : Program) (w : World) (s : Shared) (ks : List (Addr × TKey)) (s₂ : Shared) : Prop := ∃ h' tk L es ep t, s₂ = { s with heap := h', toks := tk } ∧ Set P w h' s.heap.objs.size L es ep t ∧ From ks ks.length L ∧ ∀ b o, s.heap.get? b = some o → h'.get? b = some o
theorem none_past {h : Heap} {b : Addr} (e : h.objs.size ≤ b) : h.get? b = none := by
  cases z : h.get? b with
  | none => rfl
  | some o => exact absurd (Heap.lt_size z) (Nat.not_lt_of_le e)
theorem call_set {l : Addr} {items : Array Value} {ks : List (Addr × TKey)} {Q : Value → Shared → Prop} (hh : A.handled = none) (hu : A.units + 3 < cLine) (hl : s.heap.IsList l items) (hit : items.toList = ks.map fun p => Value.ref p.1) (ly : ∀ p, p ∈ ks → Lies P w s.heap p.2 p.1) (few : Few ks)
    (q : ∀ s₂, Full P w s ks s₂ → Q (.ref s.heap.objs.size) s₂) : wpAny (model P w) A (call (.type "set") [.ref l]) Q E s := by
  have K := F.called_set
  obtain ⟨c, tl, hmro⟩ := K.mro
  have m1 := K.made
  have m2 := K.sub
  have m3 := K.notType
  have m4 := K.canCreate
  have m5 := F.typeCall_set_1 (.ref l)
  refine wpAny_call (codeAny_of_tree (show wpAny _ _ (callAny (.type "set") _) _ _ _ from wpAny_pure ⟨Code.quiet_builtin _ (by decide +kernel), codeAny_builtin F.entry_type_call ?_⟩))
  rw [Around.under_plain (weight_type_call_type "set" [.ref l] []) rfl]
  repeat (any_goals (first | assumption | wp_step))
  refine codeAny_mono (code_set_led1 (.ref l) (E := E) (Q₁ := fun u s₁ => u = .ref s.heap.objs.size ∧ s₁ = SI.made w s) ⟨rfl, rfl⟩) fun r s₁ hr => ?_
  rcases r with e | fl
  · exact hr
  cases fl with
  | ret u =>
    obtain ⟨rfl, rfl⟩ := hr
    have hS := SI.at_made (w := w) (s := s)
    have hT : Shared.TypeIs (SI.made w s) (.ref s.heap.objs.size) "set" := ⟨_, hS, rfl⟩
    have m6 := K.init.lookup
    have m7 := K.init.bind (.ref s.heap.objs.size)
    repeat (any_goals (first | assumption | wp_step))
    refine codeAny_mono (codeAny_call_builtin (R := wants (fun r s₂ => r = .none ∧ Full P w s ks s₂) E) K.init.plain F.entry_set_init (check_set_init_1 hT ?_)) fun r₂ s₂ hr₂ => ?_
    · have hlen : items.size = ks.length := by
        have z := congrArg List.length hit
        rwa [Array.length_toList, List.length_map] at z
      obtain ⟨⟨oc, od, ot, os⟩, hol, hcl, nl, hdl⟩ := hl
      simp only at hcl hdl
      subst hcl
      subst hdl
      have hlS : l < s.heap.objs.size := Heap.lt_size hol
      have hl1 : (SI.made w s).heap.IsList l items := ⟨_, Heap.get?_push_of_some _ hol, rfl, nl, rfl⟩
      have hol' : (SI.made w s).heap.get? l = some { cls := .type "list", dict := od, data := .seq items nl, slots := os } := Heap.get?_push_of_some _ hol
      have m8 := F.sub_list_set
      have m9 := F.sub_list_frozenset
      have m10 : (Value.type "list" == Value.type "dict") = false := by decide
      unfold Builtin.«set.__init__» noKeywords Builtin.Frozenset.updateFrom
      generalize hPI : pyIter = PI
      wp_walk
      subst hPI
      refine wpAny_pyIter_list hl1 (wpAny_bind (wpAny_runValue ?_))
      have hn : (SI.made w s).heap.objs.size = s.heap.objs.size + 1 := Heap.size_push ..
      have far : s.heap.objs.size ∉ [(SI.made w s).heap.objs.size, l] := by
        rw [hn]
        simp only [List.mem_cons, List.not_mem_nil, or_false, not_or]
        exact ⟨Nat.ne_of_lt (Nat.lt_succ_self _), Nat.ne_of_gt hlS⟩
      refine set_loop ((Walks.list (A := A.in1.in1.in1) (by simp [hh]) _ l (by rw [hn]; exact Nat.ne_of_lt (Nat.lt_succ_of_lt hlS)) items).toS) s.heap.objs.size far ks hlen few (fun i v hv => ?_) s.heap ly (none_past (Nat.le_refl _))
        (fun b hb => none_past (by rw [List.mem_singleton.mp hb, hn]; exact Nat.le_succ _)) (by show A.units + 1 + 1 + 1 < cLine; omega) (items.size - 0) 0 _ (by omega) (Nat.zero_le _) ⟨⟨_, Heap.get?_push_size _ rfl, rfl, rfl⟩, hl1.push _⟩
        (fun b o e => Heap.get?_push_of_some _ (Heap.get?_push_of_some _ e)) ⟨[], #[], 0, _, set_new (Heap.get?_push_of_some _ hS), fun p hp => (nomatch hp), fun p hp => (nomatch hp)⟩ ?_
      · have z : items.toList[i]? = some v := by rw [Array.getElem?_toList]; exact hv
        rw [hit, List.getElem?_map] at z
        cases e : ks[i]? with
        | none =>
          rw [e] at z
          cases z
        | some p =>
          rw [e] at z
          exact ⟨p, rfl, (Option.some.inj z).symm⟩
      · intro s' L es ep t hm hS' g'
        obtain ⟨h', g2, d', tk', os'⟩ := s'
        obtain rfl : g2 = s.gens := hm.gens
        obtain rfl : d' = s.drawn := hm.drawn
        obtain rfl : os' = s.os := hm.os
        show wpAny _ _ _ _ _ _
        rw [hlen] at g'
        refine wpAny_pure (show wpAny _ _ (ret Value.none) _ _ _ from wpAny_pure ⟨rfl, h', tk', L, es, ep, t, rfl, hS', g', fun b o e => hm.heap b o ?_ (Heap.get?_push_of_some _ (Heap.get?_push_of_some _ e))⟩)
        have hb0 : b < s.heap.objs.size := Heap.lt_size e
        rw [hn]
        simp only [List.mem_cons, List.not_mem_nil, or_false, not_or]
        exact ⟨Nat.ne_of_lt hb0, Nat.ne_of_lt (Nat.lt_succ_of_lt hb0)⟩
    · rcases r₂ with e | fl
      · exact hr₂
      cases fl with
      | ret u =>
        obtain ⟨rfl, hF⟩ := hr₂
        repeat (any_goals (first | assumption | wp_step))
        exact q _ hF
      | _ => exact hr₂.elim
  | _ => exact hr.elim
end
/-! ### as a thing of the hand layer -/
/-- the set at a, without its tuples -/
structure Bare (P : Program) (w : World) (h : Heap) (a : Addr) (L : List (Addr × TKey)) : Prop where
  ex : ∃ (es : Array (Int × Value)) (ep : Nat) (t : SetTable), (∃ o, h.get? a = some o ∧ o.ExactSet ∧ o.data = .set es ep t) ∧ es.toList = ents P w L ∧ TabOk t (hzs P w L) ∧ (L.map (·.2)).Nodup ∧ (w.params.followText "set-order" = true ∨ t.led = true) ∧ L.length * 5 < t.mask * 3 ∧ L.length < 64
def SetUO (P : Program) (w : World) (a : Addr) (L : List (Addr × TKey)) : HO := .ext fun h => Bare P w h a L
theorem Set.bare {P : Program} {w : World} {h : Heap} {a : Addr} {L : List (Addr × TKey)} {es : Array (Int × Value)} {ep : Nat} {t : SetTable} (S : Set P w h a L es ep t) : Bare P w h a L := ⟨es, ep, t, S.ob, S.en, S.tb, S.nd, S.ld, S.rm, S.fw⟩
theorem Bare.set {P : Program} {w : World} {h : Heap} {a : Addr} {L : List (Addr × TKey)} (B : Bare P w h a L) (ly : ∀ p, p ∈ L → Lies P w h p.2 p.1) : ∃ es ep t, Set P w h a L es ep t := by
  obtain ⟨es, ep, t, h1, h2, h3, h4, h5, h6, h7⟩ := B.ex
  exact ⟨es, ep, t, h1, h2, h3, h4, ly, h5, h6, h7⟩
theorem su_new {P : Program} {w : World} {H : Hp} {h : Heap} {a : Addr} {L : List (Addr × TKey)} (B : Bare P w h a L) : ObjOk P w H h a (SetUO P w a L) := by
  obtain ⟨es, ep, t, ⟨o, ho, r⟩, q⟩ := B.ex
  refine ⟨B, ⟨o, ho⟩, fun h1 h2 b k => ?_⟩
  obtain ⟨es', ep', t', ⟨o', ho', r'⟩, q'⟩ := Bare.ex b
  exact ⟨es', ep', t', ⟨o', k o' ho', r'⟩, q'⟩
theorem refs_vals : ∀ {ks : List (Addr × TKey)} {us : List Value}, Vals (ks.map fun p => V.ref p.1) us → us = ks.map fun p => Value.ref p.1
  | [], _, .nil => rfl
  | p :: ks, _, .cons r t => by
    cases r
    rw [refs_vals t, List.map_cons]
section
variable {X : Cx}
/-- set(xs), xs a list of tuples of texts and ints -/
def rSetU (P : Program) (w : World) (K : PySem.W.Frag) : List V → Hp → VK → Prop := fun xs H Q => ∃ (l : Addr) (ks : List (Addr × TKey)), xs = [V.ref l] ∧ SqL K H l (ks.map fun p => V.ref p.1) ∧ (∀ p, p ∈ ks → H p.1 = some (.tup (p.2.map kV))) ∧ Few ks ∧
  ∀ a L, H a = none → From ks ks.length L → (L.map (·.2)).Nodup → Q (.ref a) (upd H a (SetUO P w a L))
theorem cr_setU (hc : X.calm = true) (hu : X.A.units + 3 < cLine) : CallR X (.type "set") (rSetU X.prog X.w X.K) := by
  intro pins s σ H xs us Q I r h
  obtain ⟨l, ks, rfl, hl, hk, few, q⟩ := h
  rw [Vals.ref1 r]
  obtain ⟨its, rv, pl, sz⟩ := I.list hl
  refine call_set (ks := ks) (I.ok.hd hc) hu pl.isList (by simpa using refs_vals rv) (fun p hp => key_of I.hok (hk p hp)) few fun s₂ ⟨h', tk, L, es, ep, t, e, S, g, k⟩ => ?_
  subst e
  exact ⟨.ref s.heap.objs.size, upd H s.heap.objs.size (SetUO X.prog X.w s.heap.objs.size L), I.laid (t' := tk) k (Nat.le_refl _) (su_new S.bare), rfl, q _ L (I.hok.fresh (Nat.le_refl _)) g S.nd⟩
end
end UA

/-! Pairs of texts: their order, and sorted(..) of what gives them. -/
namespace UA
open PySem PySem.Spec PyProof.Rows L2
abbrev Pr := Str × Str
def slt (x y : Str) : Prop := x.cps.toList < y.cps.toList
instance (x y : Str) : Decidable (slt x y) := inferInstanceAs (Decidable (x.cps.toList < y.cps.toList))
theorem slt_irr (x : Str) : ¬ slt x x := List.lt_irrefl _
theorem slt_trans {x y z : Str} (a : slt x y) (b : slt y z) : slt x z := List.lt_trans a b
theorem slt_tri (x y : Str) : slt x y ∨ x = y ∨ slt y x := by
  by_cases a : slt x y
  · exact .inl a
  by_cases b : slt y x
  · exact .inr (.inr b)
  · refine .inr (.inl ?_)
    have e : x.cps.toList = y.cps.toList := List.le_antisymm (List.not_lt.mp b) (List.not_lt.mp a)
    cases x; cases y
    simp only at e
    rw [Array.toList_inj.mp e]
/-- pairs, the first item ahead of the second -/
def plt (p q : Pr) : Bool := decide (slt p.1 q.1 ∨ (p.1 = q.1 ∧ slt p.2 q.2))
theorem plt_irr (p : Pr) : plt p p = false := by
  refine decide_eq_false fun h => ?_
  rcases h with h | h
  · exact slt_irr _ h
  · exact slt_irr _ h.2
theorem plt_trans {p q r : Pr} (a : plt p q = true) (b : plt q r = true) : plt p r = true := by
  refine decide_eq_true ?_
  rcases of_decide_eq_true a with h | h <;> rcases of_decide_eq_true b with g | g
  · exact .inl (slt_trans h g)
  · exact .inl (g.1 ▸ h)
  · exact .inl (h.1 ▸ g)
  · exact .inr ⟨h.1.trans g.1, slt_trans h.2 g.2⟩
theorem plt_tri (p q : Pr) : plt p q = true ∨ p = q ∨ plt q p = true := by
  rcases slt_tri p.1 q.1 with h | h | h
  · exact .inl (decide_eq_true (.inl h))
  · rcases slt_tri p.2 q.2 with g | g | g
    · exact .inl (decide_eq_true (.inr ⟨h, g⟩))
    · exact .inr (.inl (Prod.ext h g))
    · exact .inr (.inr (decide_eq_true (.inr ⟨h.symm, g⟩)))
  · exact .inr (.inr (decide_eq_true (.inl h)))
/-- how many of D lie ahead -/
def rk (D : List Pr) (p : Pr) : Nat := (D.filter fun r => plt r p).length
theorem rk_le {p q : Pr} (h : ∀ r, plt r p = true → plt r q = true) : ∀ D : List Pr, rk D p ≤ rk D q
  | [] => Nat.le_refl _
  | r :: D => by
    have ih := rk_le h D
    unfold rk at ih ⊢
    by_cases a : plt r p = true
    · rw [List.filter_cons_of_pos (p := fun r => plt r p) a, List.filter_cons_of_pos (p := fun r => plt r q) (h r a)]
      exact Nat.succ_le_succ ih
    · rw [List.filter_cons_of_neg (p := fun r => plt r p) a]
      by_cases b : plt r q = true
      · rw [List.filter_cons_of_pos (p := fun r => plt r q) b]
        exact Nat.le_succ_of_le ih
      · rw [List.filter_cons_of_neg (p := fun r => plt r q) b]
        exact ih
theorem rk_lt {p q : Pr} (h : plt p q = true) : ∀ D : List Pr, p ∈ D → rk D p < rk D q
  | r :: D, m => by
    have le := rk_le (p := p) (q := q) (fun r a => plt_trans a h) D
    rcases List.mem_cons.mp m with rfl | m
    · unfold rk at le ⊢
      rw [List.filter_cons_of_neg (p := fun r => plt r p) (by simp only [plt_irr]; decide), List.filter_cons_of_pos (p := fun r => plt r q) h]
      exact Nat.lt_succ_of_le le
    · have ih := rk_lt h D m
      unfold rk at ih ⊢
      by_cases a : plt r p = true
      · rw [List.filter_cons_of_pos (p := fun r => plt r p) a, List.filter_cons_of_pos (p := fun r => plt r q) (plt_trans a h)]
        exact Nat.succ_lt_succ ih
      · rw [List.filter_cons_of_neg (p := fun r => plt r p) a]
        by_cases b : plt r q = true
        · rw [List.filter_cons_of_pos (p := fun r => plt r q) b]
          exact Nat.lt_succ_of_lt ih
        · rw [List.filter_cons_of_neg (p := fun r => plt r q) b]
          exact ih
theorem rk_plt {D : List Pr} {p q : Pr} (hp : p ∈ D) (hq : q ∈ D) : decide ((rk D p : Int) < rk D q) = plt p q := by
  rcases plt_tri p q with h | h | h
  · rw [h]
    exact decide_eq_true (Int.ofNat_lt.mpr (rk_lt h D hp))
  · subst h
    rw [plt_irr]
    exact decide_eq_false (Int.lt_irrefl _)
  · have z := rk_lt h D hq
    have n : plt p q = false := by
      cases e : plt p q with
      | false => rfl
      | true => exact absurd (plt_trans e h) (by rw [plt_irr]; decide)
    rw [n]
    exact decide_eq_false (by omega)
/-- ascending, each once: there is one such order -/
def Up (l : List Pr) : Prop := l.Pairwise fun p q => plt p q = true
theorem up_one : ∀ {l m : List Pr}, Up l → Up m → (∀ p, p ∈ l ↔ p ∈ m) → l = m
  | [], [], _, _, _ => rfl
  | [], q :: m, _, _, h => nomatch (h q).mpr List.mem_cons_self
  | p :: l, [], _, _, h => nomatch (h p).mp List.mem_cons_self
  | p :: l, q :: m, a, b, h => by
    have a' := List.pairwise_cons.mp a
    have b' := List.pairwise_cons.mp b
    have e : p = q := by
      rcases List.mem_cons.mp ((h p).mp List.mem_cons_self) with e | e
      · exact e
      rcases List.mem_cons.mp ((h q).mpr List.mem_cons_self) with g | g
      · exact g.symm
      have z := plt_trans (a'.1 q g) (b'.1 p e)
      rw [plt_irr] at z
      cases z
    subst e
    refine congrArg (p :: ·) (up_one a'.2 b'.2 fun r => ⟨fun hr => ?_, fun hr => ?_⟩)
    · rcases List.mem_cons.mp ((h r).mp (List.mem_cons_of_mem _ hr)) with e | e
      · have z := a'.1 r hr
        rw [e, plt_irr] at z
        cases z
      · exact e
    · rcases List.mem_cons.mp ((h r).mpr (List.mem_cons_of_mem _ hr)) with e | e
      · have z := b'.1 r hr
        rw [e, plt_irr] at z
        cases z
      · exact e
theorem up_of {l : List Pr} (h : l.Pairwise fun p q => plt q p = false) (nd : l.Nodup) : Up l := by
  refine (h.and nd).imp fun {p q} z => ?_
  rcases plt_tri p q with e | e | e
  · exact e
  · exact absurd e z.2
  · rw [z.1] at e
    cases e

theorem rising_far : ∀ (l : List Str) (p : Str), risingS p l = true → (p :: l).Pairwise fun a b => ¬ slt b a
  | [], p, _ => List.pairwise_singleton _ _
  | x :: l, p, h => by
    rw [risingS, Bool.and_eq_true] at h
    have ih := rising_far l x h.2
    have hx : ¬ slt x p := by
      have z := h.1
      rw [ltCps_eq] at z
      intro c
      rw [decide_eq_true (show x.cps.toList < p.cps.toList from c)] at z
      cases z
    refine List.pairwise_cons.mpr ⟨fun b hb => ?_, ih⟩
    rcases List.mem_cons.mp hb with rfl | hb
    · exact hx
    · intro c
      have g := (List.pairwise_cons.mp ih).1 b hb
      rcases slt_tri b x with e | e | e
      · exact g e
      · exact hx (e ▸ c)
      · exact hx (slt_trans e c)
theorem sorted_far : ∀ {l : List Str}, sortedS l = true → l.Pairwise fun a b => ¬ slt b a
  | [], _ => .nil
  | x :: l, h => rising_far l x h
theorem texts_one : ∀ {l m : List Str}, (l.Pairwise fun a b => ¬ slt b a) → (m.Pairwise fun a b => ¬ slt b a) → l.Nodup → m.Nodup → (∀ p, p ∈ l ↔ p ∈ m) → l = m
  | [], [], _, _, _, _, _ => rfl
  | [], q :: m, _, _, _, _, h => nomatch (h q).mpr List.mem_cons_self
  | p :: l, [], _, _, _, _, h => nomatch (h p).mp List.mem_cons_self
  | p :: l, q :: m, a, b, na, nb, h => by
    have a' := List.pairwise_cons.mp a
    have b' := List.pairwise_cons.mp b
    have na' := List.nodup_cons.mp na
    have nb' := List.nodup_cons.mp nb
    have e : p = q := by
      rcases List.mem_cons.mp ((h p).mp List.mem_cons_self) with e | e
      · exact e
      rcases List.mem_cons.mp ((h q).mpr List.mem_cons_self) with g | g
      · exact g.symm
      rcases slt_tri p q with z | z | z
      · exact absurd z (b'.1 p e)
      · exact z
      · exact absurd z (a'.1 q g)
    subst e
    refine congrArg (p :: ·) (texts_one a'.2 b'.2 na'.2 nb'.2 fun r => ⟨fun hr => ?_, fun hr => ?_⟩)
    · rcases List.mem_cons.mp ((h r).mp (List.mem_cons_of_mem _ hr)) with e | e
      · exact absurd (e ▸ hr) na'.1
      · exact e
    · rcases List.mem_cons.mp ((h r).mpr (List.mem_cons_of_mem _ hr)) with e | e
      · exact absurd (e ▸ hr) nb'.1
      · exact e
theorem sorted_one {l m : List Str} (a : sortedS l = true) (b : sortedS m = true) (na : l.Nodup) (nb : m.Nodup) (h : ∀ p, p ∈ l ↔ p ∈ m) : l = m := texts_one (sorted_far a) (sorted_far b) na nb h
/-! ### pairs in the heap -/
/-- a pair's items -/
def pk (p : Pr) : TKey := [.inr p.1, .inr p.2]
theorem pk_inj {p q : Pr} (e : pk p = pk q) : p = q := by
  injection e with e1 e2
  injection e2 with e2 _
  exact Prod.ext (Sum.inr.inj e1) (Sum.inr.inj e2)
theorem text_of {x : Str} {v : Value} (h : keyIs (.inr x) v = true) : ∃ t, v = .str x t := by
  rcases keyIs_shape h with ⟨i, t, e, _⟩ | ⟨y, t, e, f⟩
  · cases e
  · cases e
    exact ⟨t, f⟩
theorem pk_items {P : Program} {w : World} {h : Heap} {p : Pr} {a : Addr} (l : Lies P w h (pk p) a) : ∃ (o : Obj) (t u : Tok) (n : Nat), h.get? a = some o ∧ o.cls = .type "tuple" ∧ o.data = .seq #[.str p.1 t, .str p.2 u] n := by
  obtain ⟨o, its, n, ho, hc, hd, hi⟩ := l
  obtain ⟨xs⟩ := its
  cases hi with
  | cons h1 r =>
    cases r with
    | cons h2 r2 =>
      cases r2
      obtain ⟨t, rfl⟩ := text_of h1
      obtain ⟨u, rfl⟩ := text_of h2
      exact ⟨o, t, u, n, ho, hc, hd⟩
abbrev PL := List (Addr × Pr)
abbrev refsP (ps : PL) : List Value := ps.map fun p => Value.ref p.1
def LiesP (P : Program) (w : World) (h : Heap) (ps : PL) : Prop := ∀ p, p ∈ ps → Lies P w h (pk p.2) p.1
/-- how far along the value stands among ps -/
def rkV (ps : PL) : Value → Int
  | .ref a => match ps.find? fun q => q.1 == a with
    | some q => rk (ps.map (·.2)) q.2
    | none => 0
  | _ => 0
theorem rkV_at {P : Program} {w : World} {h : Heap} {ps : PL} (ly : LiesP P w h ps) {p : Addr × Pr} (hp : p ∈ ps) : rkV ps (.ref p.1) = rk (ps.map (·.2)) p.2 := by
  unfold rkV
  dsimp only
  cases e : ps.find? fun q => q.1 == p.1 with
  | none => exact absurd (List.find?_eq_none.mp e p hp) (by simp)
  | some q =>
    have q1 := List.mem_of_find?_eq_some e
    have q2 : q.1 = p.1 := by simpa using List.find?_some e
    have z : pk q.2 = pk p.2 := IsTupleKey.inj (q2 ▸ ly q q1) (ly p hp)
    dsimp only
    rw [pk_inj z]
section
variable {P : Program} {w : World} {A : Around} {E : Value → Shared → Prop} {s : Shared}
theorem zip_self (f : Value → Value) : ∀ ps : PL, ps.map (fun p => (Value.ref p.1, Value.ref p.1)) = (refsP ps).zip (refsP ps)
  | [] => rfl
  | p :: ps => congrArg ((Value.ref p.1, Value.ref p.1) :: ·) (zip_self f ps)
theorem fronts {h : Heap} : ∀ ps : PL, LiesP P w h ps → ∃ fs : List Value, PySem.W.KatTups h (refsP ps) fs ∧ fs.length = ps.length ∧ ∀ f, f ∈ fs → ∃ x t, f = Value.str x t
  | [], _ => ⟨[], PySem.W.KatTups.nil, rfl, fun f hf => nomatch hf⟩
  | p :: ps, ly => by
    obtain ⟨fs, k, hl, hi⟩ := fronts ps fun q hq => ly q (List.mem_cons_of_mem _ hq)
    obtain ⟨o, t, u, n, ho, hc, hd⟩ := pk_items (ly p List.mem_cons_self)
    refine ⟨.str p.2.1 t :: fs, PySem.W.KatTups.cons ho hc hd rfl k, congrArg (· + 1) hl, fun f hf => ?_⟩
    rcases List.mem_cons.mp hf with rfl | hf
    · exact ⟨_, _, rfl⟩
    · exact hi f hf
theorem kind_pairs {ps : PL} (h2 : 2 ≤ ps.length) (ly : LiesP P w s.heap ps) (Q : SortKind → Shared → Prop) (h : ∀ κ, TS.Cmp P w A s κ (pairsOf (refsP ps)) (rkV ps) → Q κ s) : wpAny (model P w) A (keyKind' (refsP ps).toArray) Q E s := by
  obtain ⟨fs, k, hl, hi⟩ := fronts ps ly
  refine PySem.W.kat_kind (T := Value.type "str") k (by omega) (fun f hf => ?_) (by decide) (h _ ?_)
  · obtain ⟨x, t, rfl⟩ := hi f hf
    exact .now
  · have hb : (Value.type "str" != Value.type "tuple") = true := by decide
    rw [hb]
    intro p q hp hq Q' E' hQ
    rw [pairsOf_toList] at hp hq
    obtain ⟨x, mx, ex⟩ := List.mem_map.mp (mem_zip_self hp).2
    obtain ⟨y, my, ey⟩ := List.mem_map.mp (mem_zip_self hq).2
    rw [← ex, ← ey] at hQ ⊢
    rw [rkV_at ly mx, rkV_at ly my, rk_plt (List.mem_map.mpr ⟨x, mx, rfl⟩) (List.mem_map.mpr ⟨y, my, rfl⟩)] at hQ
    obtain ⟨o, t, u, n, ho, hc, hd⟩ := pk_items (ly x mx)
    obtain ⟨o', t', u', n', ho', hc', hd'⟩ := pk_items (ly y my)
    refine PySem.W.kat_lt ho hd ho' hd' ?_
    show PySem.W.KatLex P w A true false Q' [(Value.str x.2.1 t, Value.str y.2.1 t'), (Value.str x.2.2 u, Value.str y.2.2 u')] 0 s
    refine PySem.W.kat_cons (wpAny_eqBool_str (PySem.W.kat_go (fun e => ?_) fun e => ?_))
    · have e1 := of_decide_eq_true e
      have z : plt x.2 y.2 = decide (slt x.2.2 y.2.2) := by
        refine decide_eq_decide.mpr ⟨fun g => ?_, fun g => .inr ⟨e1, g⟩⟩
        rcases g with g | g
        · rw [e1] at g
          exact absurd g (slt_irr _)
        · exact g.2
      rw [z] at hQ
      refine PySem.W.kat_yes (PySem.W.kat_cons (wpAny_eqBool_str (PySem.W.kat_go (fun e' => ?_) fun e' => ?_)))
      · rw [of_decide_eq_true e', decide_eq_false (slt_irr _)] at hQ
        exact PySem.W.kat_yes (PySem.W.kat_nil hQ)
      · refine PySem.W.kat_no ?_
        show wpAny _ _ (oneLt' false _ _) _ _ _
        exact PySem.W.kat_one _ _ (PyProof.Rows.lt_str hQ)
    · have e1 := of_decide_eq_false e
      have z : plt x.2 y.2 = decide (slt x.2.1 y.2.1) := decide_eq_decide.mpr ⟨fun g => g.elim id fun g => absurd g.1 e1, .inl⟩
      rw [z] at hQ
      refine PySem.W.kat_no ?_
      show wpAny _ _ (oneLt' true _ _) _ _ _
      exact oneLt_str hQ
/-- sorted(r), where what r gives are pairs -/
theorem sorted_of {r : Value} {Gd : PL → Prop} {Q : Value → Shared → Prop} (small : ∀ ps, Gd ps → ps.length < 64) (ly : ∀ ps, Gd ps → LiesP P w s.heap ps)
    (col : ∀ R : List Value → Shared → Prop, (∀ (s' : Shared) (ps : PL), (∀ b o, s.heap.get? b = some o → s'.heap.get? b = some o) → s.heap.objs.size ≤ s'.heap.objs.size → s'.gens = s.gens → s'.os = s.os → Gd ps → R (refsP ps) s') → wpAny (model P w) A.in1 (collect r) R E s)
    (q : ∀ (ps qs : PL) (s' : Shared) (D : Addr) (ep : Nat), Gd ps → qs.Perm ps → (qs.Pairwise fun p q => plt q.2 p.2 = false) → (∀ b o, s.heap.get? b = some o → s'.heap.get? b = some o) → s'.gens = s.gens → s'.os = s.os → s.heap.objs.size ≤ D →
      s'.heap.get? D = some (seqObj "list" (refsP qs).toArray ep) → Q (.ref D) s') : wpAny (model P w) A (call (.builtin "sorted") [r]) Q E s := by
  apply PySem.Calls.call_function_entry PyProof.Rows.kind_sorted PyProof.Rows.plain_sorted
  · exact PyProof.Rows.entry_sorted
  · exact PyProof.Rows.args_sorted1 _
  unfold Builtin.«sorted»
  apply wpAny_bind
  show wpAny _ _ (checkCount "sorted" 1 1 _) _ _ _
  apply wpAny_pure
  apply wpAny_bind
  refine col _ fun s1 ps keep le g1 g2 g => ?_
  have h64 := small ps g
  have hlen : (refsP ps).length = ps.length := List.length_map _
  apply wpAny_bind
  refine wpAny_newList ?_ (by rw [hlen, sizeLine_eq]; omega)
  have hob : (s1.heap.push { cls := .type "list", data := .seq (refsP ps).toArray }).get? s1.heap.objs.size = some (seqObj "list" (refsP ps).toArray 0) := Heap.get?_push_size _ rfl
  have old : ∀ b o, s.heap.get? b = some o → b ≠ s1.heap.objs.size ∧ (s1.heap.push { cls := .type "list", data := .seq (refsP ps).toArray }).get? b = some o := fun b o e => ⟨Nat.ne_of_lt (Heap.lt_size (keep b o e)), Heap.get?_push_of_some _ (keep b o e)⟩
  generalize s1.heap.push { cls := .type "list", data := .seq (refsP ps).toArray } = h2 at hob old ⊢
  have lyM : LiesP P w (TS.midHeap h2 s1.heap.objs.size (refsP ps)) ps := fun p hp => by
    obtain ⟨o, its, n, ho, rest⟩ := ly ps g p hp
    exact ⟨o, its, n, TS.midHeap_old (old _ _ ho).1 (old _ _ ho).2, rest⟩
  apply wpAny_bind
  apply wpAny_holding
  refine wpAny_mono (Q := fun _ s' => Q (.ref s1.heap.objs.size) s') (E := E) ?_ (fun _ s' x => wpAny_pure ⟨_, rfl, x⟩) fun _ _ e => e
  refine wpAny_call_entry PyProof.Rows.slot_list_sort ⟨_, hob, rfl⟩ PyProof.Rows.entry_list_sort (SK.plain_sort (s := { s1 with heap := h2 }) (r := rkV ps) hob (by rw [hlen]; exact h64) (fun two Qk hk => ?_) fun us out o1 o2 o3 => ⟨.none, rfl, ?_⟩) (PyProof.Rows.args_list_sort _)
  · exact kind_pairs (s := { s1 with heap := TS.midHeap h2 s1.heap.objs.size (refsP ps) }) (by rw [← hlen]; exact two) lyM Qk hk
  · obtain ⟨qs, pm, eq⟩ := perm_lift (fun p : Addr × Pr => (Value.ref p.1, Value.ref p.1)) o2 ps (zip_self (fun v : Value => v) ps)
    have e1 : out.toList = refsP qs := by
      rw [o1, ← eq, List.map_map]
      rfl
    obtain ⟨ep, he⟩ := PyProof.Rows.sortedHeap_at (vs := refsP ps) (out := out) hob
    refine q ps qs _ s1.heap.objs.size ep g pm ?_ (fun b o e => (PyProof.Rows.sortedHeap_old (old b o e).1 (Heap.lt_size (old b o e).2)).trans (old b o e).2) g1 g2 le (by rw [← e1, Array.toArray_toList]; exact he)
    rw [← eq, List.pairwise_map] at o3
    refine o3.imp_of_mem fun {a b} ha hb z => ?_
    have ma := pm.mem_iff.mp ha
    have mb := pm.mem_iff.mp hb
    dsimp only at z
    rw [rkV_at lyM ma, rkV_at lyM mb] at z
    rw [← rk_plt (D := ps.map (·.2)) (List.mem_map.mpr ⟨b, mb, rfl⟩) (List.mem_map.mpr ⟨a, ma, rfl⟩)]
    exact decide_eq_false (by omega)
end
end UA

/-! sorted(a set of pairs of texts), sorted(a dict keyed by such), as rules. -/
namespace UA
open PySem PySem.Spec PyProof.Rows L2
theorem lies_pair {P : Program} {w : World} {H : Hp} {h : Heap} (ok : HOk P w H h) {b : Addr} {p : Pr} (e : H b = some (.tup [.str p.1, .str p.2])) : Lies P w h (pk p) b := key_of (ks := pk p) ok e
theorem nodup_un {ds : List Pr} (h : (ds.map pk).Nodup) : ds.Nodup := (List.pairwise_map.mp h).imp fun ne e => ne (congrArg pk e)
theorem vals_of_refs (ps : PL) : Vals (ps.map fun p => V.ref p.1) (refsP ps) := vals_maps (fun p : Addr × Pr => V.ref p.1) (fun p => Value.ref p.1) ps fun _ _ => rfl
section
variable {prog : Program} {w : World} {A : Around} {E : Value → Shared → Prop} {s : Shared} {T : String} {r d : Addr} {n : Nat} {P : Nat → Value → Prop} {OK : Heap → Prop}
theorem collect_dict {R : List Value → Shared → Prop} (K : PySem.W.KdlSrc prog w T r d n P OK) (hh : A.handled = none) (hok : OK s.heap) (hn : n ≤ sizeLine)
    (h : ∀ (h' : Heap) (tk : Nat) (acc : Array Value), (∀ b o, s.heap.get? b = some o → h'.get? b = some o) → s.heap.objs.size ≤ h'.objs.size → ItemsOf P acc n → R acc.toList { s with heap := h', toks := tk }) : wpAny (model prog w) A (collect (.ref r)) R E s := by
  have lt := K.there _ hok
  unfold collect
  apply wpAny_bind
  refine wpAny_runValue (codeAny_builtin PyProof.Rows.entry_proto_collect' ?_)
  (rw [Around.under_plainId PySem.F.plain_proto_collect _])
  show wpAny (model prog w) A.in1 (newList [] >>= fun l => again (.builtin "list.__iadd__" ⟨[l, .ref r], []⟩)) _ _ s
  apply wpAny_bind
  refine wpAny_newObj_type (wpAny_pure ⟨plainId_quiet PySem.F.plain_list_iadd _, codeAny_builtin PyProof.Rows.entry_list_iadd' ?_⟩)
  (rw [Around.under_plainId PySem.F.plain_list_iadd _])
  have at_ : (s.heap.push { cls := .type "list", data := .seq ([] : List Value).toArray }).get? s.heap.objs.size = some { cls := .type "list", data := .seq #[] } := Heap.get?_push_size _ rfl
  show wpAny (model prog w) A.in1 (Builtin.List.listExtendWith (.ref s.heap.objs.size) (.ref r) (.ref s.heap.objs.size)) _ _ _
  have key := PySem.W.kdl_extend (A := A) (s := { s with heap := s.heap.push { cls := .type "list", data := .seq ([] : List Value).toArray } })
    (R := fun (q : Result) (s' : Shared) => ∃ (h' : Heap) (tk : Nat) (acc : Array Value) (c : Nat), q = .ok (.ret (.ref s.heap.objs.size)) ∧ s' = { s with heap := h', toks := tk } ∧
      (∀ b o, s.heap.get? b = some o → h'.get? b = some o) ∧ h'.get? s.heap.objs.size = some { cls := .type "list", dict := none, data := .seq acc c, slots := #[] } ∧ ItemsOf P acc n)
    K hh (K.keep _ _ hok fun b _ o e => Heap.get?_push_of_some _ e) s.heap.objs.size (Nat.ne_of_gt lt.1) (Nat.ne_of_gt lt.2) (.ref s.heap.objs.size) 0 at_
    (fun h' tk acc c hk hS it => ⟨h', tk, acc, c, rfl, rfl, fun b o e => hk b o (Nat.ne_of_lt (Heap.lt_size e)) (Heap.get?_push_of_some _ e), hS, it⟩) hn
  have fin : ∀ (h' : Heap) (tk : Nat) (acc : Array Value) (c : Nat), (∀ b o, s.heap.get? b = some o → h'.get? b = some o) → h'.get? s.heap.objs.size = some { cls := .type "list", dict := none, data := .seq acc c, slots := #[] } → ItemsOf P acc n →
      wpAny (model prog w) A (load s.heap.objs.size >>= fun o => match o.data with
        | .seq xs _ => pure xs.toList
        | _ => unsupported "internal:collect") R E { s with heap := h', toks := tk } := fun h' tk acc c hk hS it => by
    apply wpAny_bind
    exact wpAny_load hS (wpAny_pure (h h' tk acc hk (Nat.le_of_lt (Heap.lt_size hS)) it))
  refine wpAny_mono key (fun f s' x => ?_) fun e s' x => ?_
  · cases f with
    | done g =>
      obtain ⟨h', tk, acc, c, e, rfl, hk, hS, it⟩ := x
      cases e
      exact fin h' tk acc c hk hS it
    | again c₁ =>
      refine ⟨x.1, codeAny_mono x.2 fun g s₂ y => ?_⟩
      obtain ⟨h', tk, acc, c, rfl, rfl, hk, hS, it⟩ := y
      exact fin h' tk acc c hk hS it
  · obtain ⟨_, _, _, _, e', _⟩ := x
    cases e'
end
section
variable {X : Cx}
/-- the list that sorted makes, laid -/
theorem lay_sorted {pins : List (Addr × Obj)} {σ : L2.St} {H : Hp} {s s' : Shared} {D : Addr} {ep : Nat} {qs : PL} (I : Inv X pins σ H s) (few : qs.length < 64) (k : ∀ b o, s.heap.get? b = some o → s'.heap.get? b = some o) (g : s'.gens = s.gens) (os : s'.os = s.os)
    (le : s.heap.objs.size ≤ D) (he : s'.heap.get? D = some (seqObj "list" (refsP qs).toArray ep)) : H D = none ∧ Inv X pins σ (upd H D (.lst (qs.map fun p => V.ref p.1))) s' := by
  have hn : H D = none := I.hok.fresh le
  have hlen : (qs.map fun p => V.ref p.1).length ≤ sizeLine := by rw [List.length_map, sizeLine_eq]; omega
  have J : Inv X pins σ (upd H D (.lst (qs.map fun p => V.ref p.1))) { s with heap := s'.heap, gens := s'.gens, drawn := s'.drawn, toks := s'.toks } :=
    I.call (ch := []) (Un.laid k le hn) (I.hok.laid k le ⟨hlen, refsP qs, ep, vals_of_refs qs, he⟩) (by rw [g]; exact I.bare) fun _ z => nomatch z
  have e : s' = { s with heap := s'.heap, gens := s'.gens, drawn := s'.drawn, toks := s'.toks } := by
    cases s'
    cases s
    cases os
    rfl
  rw [e]
  exact ⟨hn, J⟩
/-- sorted(a set of pairs) -/
def rSortU (P : Program) (w : World) : List V → Hp → VK → Prop := fun vs H Q => ∃ (a : Addr) (L : List (Addr × TKey)) (ps : PL), vs = [.ref a] ∧ H a = some (SetUO P w a L) ∧ L = ps.map (fun p => (p.1, pk p.2)) ∧ (∀ p, p ∈ ps → H p.1 = some (.tup [.str p.2.1, .str p.2.2])) ∧
  ∀ (qs : PL) (l : Addr), H l = none → qs.Perm ps → Up (qs.map (·.2)) → Q (.ref l) (upd H l (.lst (qs.map fun p => V.ref p.1)))
theorem up_sorted {ps qs : PL} (pm : qs.Perm ps) (so : qs.Pairwise fun p q => plt q.2 p.2 = false) (nd : (ps.map (·.2)).Nodup) : Up (qs.map (·.2)) :=
  up_of (List.pairwise_map.mpr so) ((pm.map (·.2)).nodup_iff.mpr nd)
theorem cr_sortU (hc : X.calm = true) : CallR X (.builtin "sorted") (rSortU X.prog X.w) := by
  intro pins s σ H vs us Q I r h
  obtain ⟨a, L, ps, rfl, ha, rfl, hp, q⟩ := h
  rw [Vals.ref1 r]
  have B : Bare X.prog X.w s.heap a (ps.map fun p => (p.1, pk p.2)) := (I.hok a _ ha).1
  obtain ⟨es, ep, t, S⟩ := B.set fun p hp' => by
    obtain ⟨p0, h0, rfl⟩ := List.mem_map.mp hp'
    exact lies_pair I.hok (hp p0 h0)
  have nd : (ps.map (·.2)).Nodup := by
    have z := S.nd
    rw [List.map_map] at z
    have y : ((ps.map (·.2)).map pk).Nodup := by rwa [List.map_map]
    exact nodup_un y
  have n64 : ps.length < 64 := by
    have z := S.fw
    rwa [List.length_map] at z
  obtain ⟨o, ho, ex, hd⟩ := S.ob
  refine sorted_of (Gd := fun l => l.Perm ps) (fun l pm => by rw [pm.length_eq]; exact n64) (fun l pm p hp' => lies_pair I.hok (hp p (pm.mem_iff.mp hp'))) (fun R hR => ?_) fun l qs s' D ep' pm pm2 so k g os le he => ?_
  · refine collect_set (A := X.A.in1) (by simp [I.ok.hd hc]) ⟨o, ho, ex.1, hd⟩ S.fit (by rw [S.sz, List.length_map]; unfold scanBound; omega) S.tb.ris S.ld fun s' out k le g os pm => ?_
    have e : es.toList.map (·.2) = ps.map fun p => Value.ref p.1 := by
      rw [S.en, ents, List.map_map, List.map_map]
      rfl
    rw [e] at pm
    obtain ⟨l, pl, el⟩ := perm_lift (fun p : Addr × Pr => Value.ref p.1) pm ps rfl
    rw [← el]
    exact hR s' l k le g os pl
  · have pq := pm2.trans pm
    obtain ⟨hn, J⟩ := lay_sorted (qs := qs) I (by rw [pq.length_eq]; exact n64) k g os le he
    exact ⟨.ref D, _, J, rfl, q qs D hn pq (up_sorted pq so nd)⟩
/-- sorted(a dict keyed by pairs) -/
def rSortD (K : PySem.W.Frag) : List V → Hp → VK → Prop := fun vs H Q => ∃ (a : Addr) (kvs : List (List Key × V)) (ds : List Pr), vs = [.ref a] ∧ H a = some (.dT kvs) ∧ kvs.map (·.1) = ds.map pk ∧ ds.length < 64 ∧
  ∀ (qs : PL) (l : Addr), H l = none → (∀ p, p ∈ qs → H p.1 = some (.tup [.str p.2.1, .str p.2.2])) → (qs.map (·.2)).Perm ds → Up (qs.map (·.2)) → Q (.ref l) (upd H l (.lst (qs.map fun p => V.ref p.1)))
theorem keys_at {H : Hp} : ∀ {kvs : List (List Key × V)} {xs : List (List Key × Addr × Value)} {ds : List Pr}, KT H kvs xs → kvs.map (·.1) = ds.map pk → ∃ ps : PL, ps.map (·.2) = ds ∧ (xs.map fun x => x.2.1) = ps.map (·.1) ∧ (xs.map fun x => x.1) = ds.map pk ∧ ∀ p, p ∈ ps → H p.1 = some (.tup [.str p.2.1, .str p.2.2])
  | _, _, [], .nil, _ => ⟨[], rfl, rfl, rfl, fun p hp => nomatch hp⟩
  | _, _, _ :: _, .nil, e => nomatch e
  | _, _, [], .cons _ _, e => nomatch e
  | _, _, d :: ds, .cons (a := kv) (b := x) h t, e => by
    rw [List.map_cons, List.map_cons] at e
    injection e with e1 e2
    obtain ⟨ps, h1, h2, h3, h4⟩ := keys_at t e2
    have hd := h.2.1
    rw [e1] at hd
    refine ⟨(x.2.1, d) :: ps, congrArg (d :: ·) h1, congrArg (x.2.1 :: ·) h2, ?_, fun p hp => ?_⟩
    · rw [List.map_cons, List.map_cons, h3, ← h.1, e1]
    · rcases List.mem_cons.mp hp with rfl | hp
      · exact hd
      · exact h4 p hp
theorem cr_sortD (hc : X.calm = true) : CallR X (.builtin "sorted") (rSortD X.K) := by
  intro pins s σ H vs us Q I r h
  obtain ⟨a, kvs, ds, rfl, ha, hk, n64, q⟩ := h
  rw [Vals.ref1 r]
  obtain ⟨z, lo, xs, rel, o, es, ep, ho, hx, hd, hes, his, hn⟩ := dt_of I.hok ha
  obtain ⟨ps, p1, p2, p3, p4⟩ := keys_at rel hk
  have ln : es.size = ps.length := by
    rw [size_of_entries hes, ← List.length_map (f := fun x : List Key × Addr × Value => x.2.1), p2, List.length_map]
  have l2 : ps.length = ds.length := by rw [← p1, List.length_map]
  have nd : (ps.map (·.2)).Nodup := by
    rw [p1]
    have y : (ds.map pk).Nodup := by
      rw [← p3]
      exact hn
    exact nodup_un y
  refine sorted_of (Gd := fun l => l = ps) (fun l e => by rw [e, l2]; exact n64) (fun l e p hp => lies_pair I.hok (p4 p (e ▸ hp))) (fun R hR => ?_) fun l qs s' D ep' e pm so k g os le he => ?_
  · refine collect_dict (A := X.A.in1) (kdl_raw lo hx hd) (by simp [I.ok.hd hc]) ho (by rw [sizeLine_eq]; omega) fun h' tk acc k le it => ?_
    have ea : acc.toList = refsP ps := by
      have hl : acc.toList.length = ps.length := by rw [Array.length_toList, it.1]; exact ln
      apply List.ext_getElem?
      intro j
      rw [refsP, List.getElem?_map]
      cases hj : acc.toList[j]? with
      | none =>
        have h1 := List.getElem?_eq_none_iff.mp hj
        rw [List.getElem?_eq_none (by omega)]
        rfl
      | some v =>
        obtain ⟨en, hen, hv⟩ := it.2 j v (by rw [← Array.getElem?_toList]; exact hj)
        have qe := entry_at hes j
        rw [hen] at qe
        have px : (xs.map fun x => x.2.1)[j]? = (ps.map (·.1))[j]? := by rw [p2]
        rw [List.getElem?_map, List.getElem?_map] at px
        cases hb : xs[j]? with
        | none =>
          rw [hb] at qe
          exact nomatch (show some en = none from qe)
        | some b =>
          rw [hb] at qe px
          have e2 : en = entryOfKey (tupleKind (mixKind X.prog X.w)) b := Option.some.inj qe
          cases hp : ps[j]? with
          | none =>
            rw [hp] at px
            cases px
          | some p =>
            rw [hp] at px
            have e3 : b.2.1 = p.1 := Option.some.inj px
            rw [hv, e2]
            show some (Value.ref b.2.1) = some (Value.ref p.1)
            rw [e3]
    rw [ea]
    exact hR _ ps k le rfl rfl rfl
  · subst e
    obtain ⟨hn2, J⟩ := lay_sorted (qs := qs) I (by rw [pm.length_eq, l2]; exact n64) k g os le he
    refine ⟨.ref D, _, J, rfl, q qs D hn2 (fun p hp => p4 p (pm.mem_iff.mp hp)) ?_ (up_sorted pm so nd)⟩
    rw [← p1]
    exact pm.map (·.2)
end
end UA

namespace L41
open PySem PySem.Spec PyProof.Rows L2 GR WX TX UA
abbrev aggW : List Str := ["count", "sum", "most", "first"]
/-- the column that a part names -/
def colOf : PyData → Option Pr
  | .tuple [.str w, .str t, _, .str v] => if w = "cell" then some (t, v) else none
  | .tuple (.str w :: .str t :: _ :: _ :: _) => if w ∈ aggW then some (t, ("in" : Str)) else none
  | _ => none
def cols (l : List PyData) : List Pr := l.filterMap colOf
theorem col_cell {t v : Str} {x : PyData} : colOf (.tuple [.str "cell", .str t, x, .str v]) = some (t, v) := by
  unfold colOf
  simp
theorem Ex.cell_of {zs : List Str} {n : Nat} {rest : List PyData} (h : Ex zs n (.tuple (.str "cell" :: rest))) : ∃ m t v x, n = m + 1 ∧ t ∈ zs ∧ v ∈ zs ∧ rest = [.str t, x, .str v] ∧ Ex zs m x := by
  generalize hx : PyData.tuple (.str "cell" :: rest) = x at h
  cases h with
  | leaf n x h => cases h <;> cases hx
  | cell n t v x h1 h2 h3 =>
    cases hx
    exact ⟨n, t, v, x, rfl, h1, h2, rfl, h3⟩
  | op n o x y h1 h2 h3 =>
    cases hx
    exact absurd h1 (by decide)
  | iff n x y z h1 h2 h3 => cases hx
  | agg n o t xs ys h1 h2 h3 h4 h5 =>
    cases hx
    simp only [aggs, List.mem_cons, List.not_mem_nil, or_false, Prod.mk.injEq] at h1
    rcases h1 with ⟨h, _⟩ | ⟨h, _⟩ | ⟨h, _⟩ | ⟨h, _⟩ <;> exact absurd h (by decide)
theorem aggs_w {o : Str} {n : Nat} (h : (o, n) ∈ aggs) : o ∈ aggW ∧ 2 ≤ n := by
  simp only [aggs, List.mem_cons, List.not_mem_nil, or_false, Prod.mk.injEq] at h
  rcases h with ⟨rfl, rfl⟩ | ⟨rfl, rfl⟩ | ⟨rfl, rfl⟩ | ⟨rfl, rfl⟩ <;> exact ⟨by decide, by decide⟩
theorem agg_ne {o : Str} (h : o ∈ aggW) : o ≠ "cell" := fun e => absurd (e ▸ h) (by decide)
/-- an aggregate, by its word -/
theorem Ex.agg_of {zs : List Str} {n : Nat} {o : Str} {rest : List PyData} (h : Ex zs n (.tuple (.str o :: rest))) (ho : o ∈ aggW) : ∃ m t xs y ys, n = m + 1 ∧ rest = .str t :: .tuple xs :: y :: ys ∧ t ∈ zs ∧ (o, ys.length + 1) ∈ aggs ∧ xs.length ≤ 40 ∧ (∀ x, x ∈ xs → Ex zs m x) ∧ Ex zs m y ∧ ∀ z, z ∈ ys → Ex zs m z := by
  generalize hx : PyData.tuple (.str o :: rest) = x at h
  cases h with
  | leaf n x h => cases h <;> cases hx <;> exact absurd ho (by decide)
  | cell n t v x h1 h2 h3 =>
    cases hx
    exact absurd ho (by decide)
  | op n o' x y h1 h2 h3 =>
    cases hx
    simp only [opws, List.mem_cons, List.not_mem_nil, or_false] at h1
    rcases h1 with rfl | rfl | rfl | rfl | rfl | rfl <;> exact absurd ho (by decide)
  | iff n x y z h1 h2 h3 =>
    cases hx
    exact absurd ho (by decide)
  | agg n o' t xs ys h1 h2 h3 h4 h5 =>
    cases hx
    have := (aggs_w h1).2
    match ys, h1, h5, this with
    | y :: ys, h1, h5, _ => exact ⟨n, t, xs, y, ys, rfl, rfl, h2, h1, h3, h4, h5 y List.mem_cons_self, fun z hz => h5 z (List.mem_cons_of_mem _ hz)⟩
theorem col_agg {zs : List Str} {n : Nat} {o t : Str} {x y : PyData} {r : List PyData} (h : o ∈ aggW) (hy : Ex zs n y) : colOf (.tuple (.str o :: .str t :: x :: y :: r)) = some (t, ("in" : Str)) := by
  obtain ⟨w, fs, rest, rfl, _, _⟩ := hy.form
  unfold colOf
  split
  · rename_i e
    cases e
  · rename_i e
    cases e
    exact if_pos h
  · rename_i h1 h2
    exact absurd rfl (h2 _ _ _ _ _)
theorem col_no {o : Str} {r : List PyData} (h1 : o ≠ "cell") (h2 : o ∉ aggW) : colOf (.tuple (.str o :: r)) = none := by
  unfold colOf
  split
  · rename_i e
    cases e
    exact if_neg h1
  · rename_i e
    cases e
    exact if_neg h2
  · rfl
theorem cols_take {l : List PyData} {i : Nat} {x : PyData} (h : l[i]? = some x) : cols (l.take (i + 1)) = cols (l.take i) ++ (colOf x).toList := by
  unfold cols
  rw [take_snoc h, List.filterMap_append]
  cases e : colOf x with
  | none => simp [e]
  | some z => simp [e]
/-- all that may be named -/
def pairsOn (zs : List Str) : List Pr := zs.flatMap fun t => zs.map fun v => (t, v)
theorem mem_pairsOn {zs : List Str} {p : Pr} : p ∈ pairsOn zs ↔ p.1 ∈ zs ∧ p.2 ∈ zs := by
  unfold pairsOn
  rw [List.mem_flatMap]
  constructor
  · rintro ⟨t, ht, h⟩
    obtain ⟨v, hv, e⟩ := List.mem_map.mp h
    rw [← e]
    exact ⟨ht, hv⟩
  · rintro ⟨h1, h2⟩
    exact ⟨p.1, h1, List.mem_map.mpr ⟨p.2, h2, rfl⟩⟩
theorem pairsOn_len (zs : List Str) : (pairsOn zs).length = zs.length * zs.length := by
  unfold pairsOn
  rw [List.length_flatMap]
  simp [List.map_const', List.sum_replicate_nat]
theorem cols_in {zs : List Str} {n : Nat} {l : List PyData} (hi : ("in" : Str) ∈ zs) (h : ∀ x, x ∈ l → Ex zs n x) : ∀ z, z ∈ cols l → z ∈ pairsOn zs := by
  intro z hz
  obtain ⟨x, hx, e⟩ := List.mem_filterMap.mp hz
  have hex := h x hx
  obtain ⟨w, fs, rest, rfl, _, _⟩ := hex.form
  by_cases hw : w = "cell"
  · subst hw
    obtain ⟨m, t, v, y, _, ht, hv, rfl, _⟩ := hex.cell_of
    rw [col_cell] at e
    cases e
    exact mem_pairsOn.mpr ⟨ht, hv⟩
  by_cases ha : w ∈ aggW
  · obtain ⟨m, t, xs, y, ys, _, rfl, ht, _, _, _, hy, _⟩ := hex.agg_of ha
    rw [col_agg ha hy] at e
    cases e
    exact mem_pairsOn.mpr ⟨ht, hi⟩
  · rw [col_no hw ha] at e
    cases e
theorem nodup_le' {α : Type} [BEq α] [LawfulBEq α] : ∀ {l m : List α}, l.Nodup → (∀ z, z ∈ l → z ∈ m) → l.length ≤ m.length
  | [], _, _, _ => Nat.zero_le _
  | a :: l, m, h, s => by
    obtain ⟨h1, h2⟩ := List.nodup_cons.mp h
    have ha := s a List.mem_cons_self
    have := nodup_le' (m := m.erase a) h2 fun z hz => by
      have hne : z ≠ a := fun e => h1 (e ▸ hz)
      exact (List.mem_erase_of_ne hne).mpr (s z (List.mem_cons_of_mem _ hz))
    rw [List.length_erase_of_mem ha] at this
    have pos : 0 < m.length := List.length_pos_of_mem ha
    rw [List.length_cons]
    omega
/-- one more -/
def putP (d : Pr) (l : List Pr) : List Pr := if d ∈ l then l else l ++ [d]
theorem mem_putP {d z : Pr} {l : List Pr} : z ∈ putP d l ↔ z ∈ l ∨ z = d := by
  unfold putP
  by_cases h : d ∈ l
  · rw [if_pos h]
    exact ⟨.inl, fun e => e.elim id fun e => e ▸ h⟩
  · rw [if_neg h, List.mem_append, List.mem_singleton]
theorem putP_nodup {d : Pr} {l : List Pr} (h : l.Nodup) : (putP d l).Nodup := by
  unfold putP
  by_cases e : d ∈ l
  · rw [if_pos e]
    exact h
  · rw [if_neg e]
    exact List.nodup_append.mpr ⟨h, List.pairwise_singleton _ _, fun a ha b hb e' => by
      rw [List.mem_singleton.mp hb] at e'
      exact e (e' ▸ ha)⟩
/-- the dict of these pairs -/
def kvP (l : List Pr) : List (List L2.Key × V) := l.map fun d => (pk d, V.bl true)
theorem kvP_put (d : Pr) : ∀ l : List Pr, putK (kvP l) (pk d) (.bl true) = kvP (putP d l) := by
  intro l
  unfold putK putP
  by_cases h : d ∈ l
  · have a : ((kvP l).any fun kv => decide (kv.1 = pk d)) = true := List.any_eq_true.mpr ⟨(pk d, .bl true), List.mem_map.mpr ⟨d, h, rfl⟩, by simp⟩
    rw [if_pos a, if_pos h]
    unfold kvP
    rw [List.map_map]
    refine List.map_congr_left fun e _ => ?_
    show (if pk e = pk d then (pk e, V.bl true) else (pk e, V.bl true)) = (pk e, V.bl true)
    rw [ite_self]
  · have a : ¬ ((kvP l).any fun kv => decide (kv.1 = pk d)) = true := fun z => by
      obtain ⟨kv, hkv, e⟩ := List.any_eq_true.mp z
      obtain ⟨d', hd', rfl⟩ := List.mem_map.mp hkv
      exact h (pk_inj (of_decide_eq_true e) ▸ hd')
    rw [if_neg a, if_neg h]
    unfold kvP
    rw [List.map_append]
    rfl
theorem kvP_keys (l : List Pr) : (kvP l).map (·.1) = l.map pk := by
  unfold kvP
  rw [List.map_map]
  rfl
section
variable {P : Program} {w : World} {K : PySem.W.Frag} {mg : Str → Option Value} {base : Heap}
/-- the aggregates' words, written -/
def AggK (K : PySem.W.Frag) (aA : Addr) : Prop := ∀ H, SqT K H aA (aggW.map V.str)
/-- pairs laid, ascending -/
def Cols (H : Hp) (p : Addr) (l : List Pr) : Prop := ∃ qs : PL, H p = some (.tup (qs.map fun q => V.ref q.1)) ∧ (∀ q, q ∈ qs → H q.1 = some (.tup [.str q.2.1, .str q.2.2])) ∧ qs.map (·.2) = l
abbrev s_columns_of : Stmt := topS 11
abbrev N_cols : List Str := ["expression", "found", "part"]
theorem sc_columns_of : FnScope N_cols ["expression"] (defScope s_columns_of) := ⟨rfl, rfl, rfl, by decide +kernel, rfl, by decide +kernel, by decide +kernel⟩
def sp_columns_of (K : PySem.W.Frag) : Sp := fun vs H Q _ => ∃ (v : V) (x : PyData) (zs : List Str) (n : Nat), vs = [v] ∧ Dp K H v x ∧ Ex zs n x ∧ (flatP n x).length ≤ 200000 ∧ zs.length ≤ 7 ∧ ("in" : Str) ∈ zs ∧
  ∀ H' p ys, Same H H' → H p = none → Cols H' p ys → Up ys → (∀ z, z ∈ ys ↔ z ∈ cols (lvls n [x])) → Q (.ref p) H'
theorem ok_columns_of {f fc aA : Addr} {fd fdc : FuncData} {k : Nat} (F : Fun K "columns_of" "columns_of" s_columns_of f fd) (Gc : FnOk P w K mg base CX0 k fc fdc ["expression"] (sp_all_parts K)) (gc : mg "all_parts" = some (.ref fc)) (Kc : PySem.W.keepIn K (.ref fc) = true) (bc : Binds K fdc ["expression"] [])
    (mAGG : mg "AGGREGATES" = some (.ref aA)) (T : AggK K aA) (msorted : mg "sorted" = none) (mtuple : mg "tuple" = none) : FnOk P w K mg base CX0 (k + 1) f fd ["expression"] (sp_columns_of K) := by
  have nd := sc_columns_of.nd
  refine F.ok sc_columns_of (fun vs H Q E h => ?_) (fun cdv A outer s H vs Q E hr h => ?_)
  · obtain ⟨v, x, zs, n, rfl, _⟩ := h
    rfl
  obtain ⟨v, x, zs, n, rfl, hd, he, hb, h7, hi, q⟩ := h
  have hu1 : (A.deeper (envOfC "columns_of" (defScope s_columns_of) s.heap.objs.size f cdv)).units + 1 < cLine := by
    have := hr.units
    omega
  refine ⟨_, (pss_cons (ps_set (i := 1) nd rfl (.inl rfl) pe_dnewT)
      (pss_cons (ps_for PassesOwn.never rfl (pi_list (pe_call Gc hr (by rfl) gc Kc bc .nil pass0 (pa_cons (pv 0) pa_nil))) (pg_name (i := 2) nd rfl (Or.inl rfl))
      (pss_one (ps_if (pt_cmpR op_eq (pe_ix ix_tup (pv 2) pe_int (fun _ _ => rfl)) pe_str (nomark _))
        (pss_one (ps_dput hu1 (pv 1) (pe_tup (pa_cons (pe_ix ix_tup (pv 2) pe_int (fun _ _ => rfl)) (pa_cons (pe_ix ix_tup (pv 2) pe_int (fun _ _ => rfl)) pa_nil))) pe_bl (by rfl)))
        (pss_one (ps_if (pt_cmpR op_in_seq (pe_ix ix_tup (pv 2) pe_int (fun _ _ => rfl)) (pe_glob rfl mAGG (v := .ref aA) rfl) (by rfl))
          (pss_one (ps_dput hu1 (pv 1) (pe_tup (pa_cons (pe_ix ix_tup (pv 2) pe_int (fun _ _ => rfl)) (pa_cons pe_str pa_nil))) pe_bl (by rfl)))
          pss_nil)))))
      (pss_one (ps_ret (pe_callTy call_tuple_of (by rfl) mtuple boot_tuple (pa_cons (pe_callB (cr_sortD rfl) (by rfl) msorted boot_sorted (pa_cons (pv 1) pa_nil)) pa_nil)))))), ?_⟩
  refine fun D nD => ?_
  have sD := same_upd (o := .dT []) nD
  have hD0 : upd H D (.dT []) D = some (.dT []) := upd_same
  revert sD hD0
  generalize upd H D (.dT []) = H0
  intro sD hD0
  refine ⟨v, rfl, v, x, zs, n, rfl, dp_keep (KeepT.of sD) _ _ he.flat hd, he, hb, fun H1 p us s1 np hp hu => ⟨p, rfl, ⟨us, .inl (.inl hp)⟩, ?_⟩⟩
  have hD1 := s1 _ _ hD0
  have pD : p ≠ D := fun z => by rw [z, hD1] at hp; cases hp
  have hx1 : ∀ y, y ∈ [x] → Ex zs n y := fun y hy => by
    rw [List.mem_singleton.mp hy]
    exact he
  have hE := lvls_ex hx1
  have lu := dpAll_len hu
  have hcz := cols_in hi hE
  have cnt : ∀ {l : List Pr} {i : Nat}, l.Nodup → (∀ z, z ∈ l ↔ z ∈ cols ((lvls n [x]).take i)) → l.length ≤ 49 := fun {l i} hn hm => by
    have h1 := nodup_le' (m := pairsOn zs) hn fun z hz => hcz z (by
      obtain ⟨y, hy, e⟩ := List.mem_filterMap.mp ((hm z).mp hz)
      exact List.mem_filterMap.mpr ⟨y, List.mem_of_mem_take hy, e⟩)
    rw [pairsOn_len] at h1
    have h2 : zs.length * zs.length ≤ 7 * 7 := Nat.mul_le_mul h7 h7
    omega
  refine for_list (xs := us) (fun i σ H' => ∃ (y : Option V) (l : List Pr), σ = [some v, some (.ref D), y] ∧ H' D = some (.dT (kvP l)) ∧ l.Nodup ∧ (∀ z, z ∈ l ↔ z ∈ cols ((lvls n [x]).take i)) ∧ ∀ b o, b ≠ D → H1 b = some o → H' b = some o) ?_ ?_ ?_ ?_
  · refine ⟨none, [], rfl, hD1, .nil, fun z => ?_, fun b o _ e => e⟩
    rw [List.take_zero]
    exact Iff.rfl
  · rintro i σ H' _ ⟨y, l, rfl, hl, hn, hm, kk⟩
    exact .inl (.inl (kk _ _ pD hp))
  · rintro i y σ H' hy ⟨y0, l, rfl, hl, hn, hm, kk⟩
    obtain ⟨d, hdi, hyd⟩ := dpAll_at hu hy
    have ex := hE d (List.mem_of_getElem? hdi)
    have kt : KeepT H1 H' := ⟨fun b us e => kk _ _ (ne_of e hD1 (fun z => by cases z)) e, fun b o us e => kk _ _ (ne_of e hD1 (fun z => by cases z)) e⟩
    have hyd2 := ex.kept kt hyd
    have ct := cols_take hdi
    have c49 := cnt hn hm
    -- one more pair
    have more : ∀ (H3 : Hp) (b : Addr) (d' : Pr), (∀ b o, b ≠ D → H1 b = some o → H3 b = some o) → H3 D = some (.dT (kvP l)) → H3 b = some (.tup [.str d'.1, .str d'.2]) → colOf d = some d' →
        ∃ H4, DPut H3 D (.ref b) (.bl true) H4 ∧ ∃ (y0 : Option V) (l' : List Pr), [some v, some (.ref D), some y] = [some v, some (.ref D), y0] ∧ H4 D = some (.dT (kvP l')) ∧ l'.Nodup ∧ (∀ z, z ∈ l' ↔ z ∈ cols ((lvls n [x]).take (i + 1))) ∧ ∀ b o, b ≠ D → H1 b = some o → H4 b = some o := by
      intro H3 b d' k3 h3 hb e
      refine ⟨_, DPut.t (k := pk d') h3 hb ?_, some y, putP d' l, rfl, ?_, putP_nodup hn, fun z => ?_, fun b o hb e => ?_⟩
      · unfold kvP
        rw [List.length_map, sizeLine_eq]
        omega
      · rw [upd_same, kvP_put]
      · rw [mem_putP, ct, List.mem_append, hm z, e]
        simp
      · rw [upd_ne hb]
        exact k3 b o hb e
    obtain ⟨wd, fs, rest, rfl, _, _⟩ := ex.form
    cases hyd2 with
    | tup hS hA =>
    cases hA with
    | @cons vw vs0 dw ds0 hw hA =>
    cases hw
    rename_i a
    refine ⟨.ref a, rfl, a, _, 0, .str wd, rfl, rfl, hS, at0, rfl, _, rfl, ite2 (fun e1 => ?_) (fun e1 => ?_)⟩
    · have e1 : wd = "cell" := by simpa using e1
      subst e1
      obtain ⟨m, t, z, x0, _, ht, hz, rfl, _⟩ := ex.cell_of
      cases hA with
      | @cons v1 vs1 d1 ds1 g1 hA =>
      cases hA with
      | @cons v2 vs2 d2 ds2 g2 hA =>
      cases hA with
      | @cons v3 vs3 d3 ds3 g3 hA =>
      cases hA
      cases g1
      cases g3
      refine ⟨.ref D, rfl, .ref a, rfl, a, _, 1, .str t, rfl, rfl, hS, at1, .ref a, rfl, a, _, 3, .str z, rfl, rfl, hS, at3, le2, fun b nb => ?_⟩
      have sb := same_upd (o := .tup [.str t, .str z]) nb
      obtain ⟨H4, put, rest⟩ := more _ b (t, z) (fun c o hc e => sb c o (kk c o hc e)) (sb _ _ hl) upd_same col_cell
      exact ⟨D, H4, rfl, put, rest⟩
    · have e1 : wd ≠ "cell" := fun z => e1 (by simpa using z)
      refine ⟨.ref a, rfl, a, _, 0, .str wd, rfl, rfl, hS, at0, aA, _, rfl, .inr (T H'), rfl, flat_strs aggW, _, rfl, ?_⟩
      rw [wanted_in]
      refine ite2 (fun e2 => ?_) (fun e2 => ?_)
      · have e2 : wd ∈ aggW := by simpa using e2
        obtain ⟨m, t, xs, y1, ys, _, rfl, ht, _, _, _, hy1, _⟩ := ex.agg_of e2
        cases hA with
        | @cons v1 vs1 d1 ds1 g1 hA =>
        cases g1
        refine ⟨.ref D, rfl, .ref a, rfl, a, _, 1, .str t, rfl, rfl, hS, at1, le2, fun b nb => ?_⟩
        have sb := same_upd (o := .tup [.str t, .str "in"]) nb
        obtain ⟨H4, put, rest⟩ := more _ b (t, "in") (fun c o hc e => sb c o (kk c o hc e)) (sb _ _ hl) upd_same (col_agg e2 hy1)
        exact ⟨D, H4, rfl, put, rest⟩
      · have e2 : wd ∉ aggW := fun z => e2 (by simpa using z)
        refine ⟨some (.ref a), l, rfl, hl, hn, fun z => ?_, kk⟩
        rw [ct, col_no e1 e2, hm z]
        simp
  · rintro σ H2 ⟨y, l, rfl, hl, hn, hm, kk⟩
    rw [lu, List.take_length] at hm
    have c49 := cnt (i := (lvls n [x]).length) hn (by rw [List.take_length]; exact hm)
    refine ⟨.ref D, rfl, D, kvP l, l, rfl, hl, kvP_keys l, by omega, fun qs r nr hq pm up => ?_⟩
    have sr := same_upd (o := .lst (qs.map fun q => V.ref q.1)) nr
    refine ⟨r, qs.map fun q => V.ref q.1, rfl, .inl ⟨.inl (.inl upd_same), fun t nt => ?_⟩⟩
    have st := same_upd (o := .tup (qs.map fun q => V.ref q.1)) nt
    have hk : Same H H2 := fun b o e => by
      have h0 := s1 _ _ (sD b o e)
      exact kk b o (ne_of_none e nD) h0
    refine q _ t (qs.map (·.2)) (hk.trans (sr.trans st)) ((hk.trans sr).free nt) ⟨qs, upd_same, fun z hz => st _ _ (sr _ _ (hq z hz)), rfl⟩ up fun z => ?_
    rw [pm.mem_iff]
    exact hm z
end
end L41

/-! A dict whose keys are pairs of texts and ints; asked for such, or for None. -/
namespace UA
open PySem PySem.Spec PyProof.Rows L2
inductive RK where
  | tp (d : Pr)
  | nm (i : Int)
  | no
  deriving DecidableEq
/-- this value is this key -/
def KAt (P : Program) (w : World) (h : Heap) : RK → Value → Prop
  | .tp d, v => ∃ b, v = .ref b ∧ Lies P w h (pk d) b
  | .nm i, v => ∃ t, v = .int i t
  | .no, v => v = .none
def kh (P : Program) (w : World) : RK → Int
  | .tp d => hz P w (pk d)
  | .nm i => hashInt i
  | .no => reduceHash 0xFCA86420
def kdr : RK → Nat
  | .tp _ => 3
  | _ => 1
section
variable {P : Program} {w : World} {A : Around} {E : Value → Shared → Prop} {s : Shared}
theorem k_hash {k : RK} {v : Value} {Q : Int → Shared → Prop} (hu : A.units < cLine) (l : KAt P w s.heap k v) (h : Q (kh P w k) { s with toks := s.toks + kdr k }) : wpAny (model P w) A (pyHash v) Q E s := by
  cases k with
  | tp d =>
    obtain ⟨b, rfl, lb⟩ := l
    exact wpAny_pyHash_tuple hu lb h
  | nm i =>
    obtain ⟨t, rfl⟩ := l
    exact wpAny_pyHash_int h
  | no =>
    have e : v = .none := l
    subst e
    exact (noneKind P w).pyHash (k := none) rfl h
theorem tup_of {h : Heap} {k : TKey} {b : Addr} (l : Lies P w h k b) : ∃ its, h.IsTuple b its := by
  obtain ⟨o, its, n, ho, hc, hd, _⟩ := l
  exact ⟨its, o, ho, hc, n, hd⟩
theorem k_eq {k k' : RK} {v v' : Value} {Q : Bool → Shared → Prop} (hu : A.units < cLine) (l : KAt P w s.heap k v) (l' : KAt P w s.heap k' v') (h : Q (decide (k = k')) s) : wpAny (model P w) A (eqBool v v') Q E s := by
  cases k with
  | tp d =>
    obtain ⟨b, rfl, lb⟩ := l
    obtain ⟨its, it⟩ := tup_of lb
    cases k' with
    | tp d' =>
      obtain ⟨b', rfl, lb'⟩ := l'
      refine wpAny_eqBool_tuple hu lb lb' ?_
      have e : decide (pk d = pk d') = decide (RK.tp d = RK.tp d') := decide_eq_decide.mpr ⟨fun z => congrArg RK.tp (pk_inj z), fun z => congrArg pk (RK.tp.inj z)⟩
      rw [e]
      exact h
    | nm i =>
      obtain ⟨t, rfl⟩ := l'
      exact SeqAt.EqAt.tuple_int i t it hu _ _ _ _ h
    | no =>
      have e : v' = .none := l'
      subst e
      exact SeqAt.EqAt.tuple_none it hu _ _ _ _ h
  | nm i =>
    obtain ⟨t, rfl⟩ := l
    cases k' with
    | tp d' =>
      obtain ⟨b', rfl, lb'⟩ := l'
      obtain ⟨its, it⟩ := tup_of lb'
      exact SeqAt.EqAt.int_tuple i t it hu _ _ _ _ h
    | nm j =>
      obtain ⟨u, rfl⟩ := l'
      refine wpAny_eqBool_int ?_
      have e : (i == j) = decide (RK.nm i = RK.nm j) := by
        by_cases c : i = j
        · subst c
          simp
        · have d : ¬ RK.nm i = RK.nm j := fun z => c (RK.nm.inj z)
          simp [c]
      rw [e]
      exact h
    | no =>
      have e : v' = .none := l'
      subst e
      exact SeqAt.EqAt.int_none i t _ _ _ _ h
  | no =>
    have e : v = .none := l
    subst e
    cases k' with
    | tp d' =>
      obtain ⟨b', rfl, lb'⟩ := l'
      obtain ⟨its, it⟩ := tup_of lb'
      exact SeqAt.EqAt.none_tuple it hu _ _ _ _ h
    | nm j =>
      obtain ⟨u, rfl⟩ := l'
      exact SeqAt.EqAt.none_int j u _ _ _ _ h
    | no =>
      have e : v' = .none := l'
      subst e
      exact SeqAt.EqAt.same _ _ _ _ _ h
theorem k_quiet {k : RK} {v : Value} {Q : Bool → Shared → Prop} (l : KAt P w s.heap k v) (h : Q true s) : wpAny (model P w) A (eqIsQuiet 8 v) Q E s := by
  cases k with
  | tp d =>
    obtain ⟨b, rfl, lb⟩ := l
    exact wpAny_eqIsQuiet_tuple lb h
  | nm i =>
    obtain ⟨t, rfl⟩ := l
    exact wpAny_pure h
  | no =>
    have e : v = .none := l
    subst e
    exact wpAny_pure h
theorem none_tells {k : RK} {v : Value} {ws : List Value} {Q : Bool → Shared → Prop} (l : KAt P w s.heap k v) (hw : ∀ u, u ∈ ws → ∃ k', KAt P w s.heap k' u) (h : Q false s) : wpAny (model P w) A (tableMayTell v ws) Q E s := by
  unfold tableMayTell
  split
  · exact wpAny_pure h
  · apply wpAny_bind
    refine k_quiet l ?_
    simp only [Bool.not_true, Bool.false_eq_true, if_false]
    apply wpAny_bind
    refine wpAny_forIn_list _ (fun rest r z => z = s ∧ r = (none, ()) ∧ ∀ u, u ∈ rest → ∃ k', KAt P w s.heap k' u) _ (fun u rest r z hz => ?_) (fun r z hz => ?_) _ _ ⟨rfl, rfl, hw⟩
    · obtain ⟨rfl, rfl, all⟩ := hz
      obtain ⟨k', lu⟩ := all u List.mem_cons_self
      apply wpAny_bind
      refine k_quiet lu ?_
      simp only [Bool.not_true, Bool.false_eq_true, if_false]
      exact wpAny_pure ⟨rfl, rfl, fun y hy => all y (List.mem_cons_of_mem _ hy)⟩
    · obtain ⟨rfl, rfl, _⟩ := hz
      exact wpAny_pure h
/-- an entry of the dict -/
def RE (P : Program) (w : World) (h : Heap) (k : RK) (e : DictEntry) : Prop := e.hash = kh P w k ∧ KAt P w h k e.key ∧ e.val = .bool true
theorem pair_left {α β : Type} {F : α → β → Prop} : ∀ {l : List α} {m : List β} {j : Nat} {x : α}, Paired F l m → l[j]? = some x → ∃ y, m[j]? = some y ∧ F x y
  | _, _, 0, x, .cons f _, e => by
    cases e
    exact ⟨_, rfl, f⟩
  | _, _, j + 1, x, .cons _ t, e => by
    obtain ⟨y, h1, h2⟩ := pair_left t (by simpa using e)
    exact ⟨y, by simpa using h1, h2⟩
  | _, _, _, _, .nil, e => by simp at e
theorem pair_right {α β : Type} {F : α → β → Prop} : ∀ {l : List α} {m : List β} {j : Nat} {y : β}, Paired F l m → m[j]? = some y → ∃ x, l[j]? = some x ∧ F x y
  | _, _, 0, y, .cons f _, e => by
    cases e
    exact ⟨_, rfl, f⟩
  | _, _, j + 1, y, .cons _ t, e => by
    obtain ⟨x, h1, h2⟩ := pair_right t (by simpa using e)
    exact ⟨x, by simpa using h1, h2⟩
  | _, _, _, _, .nil, e => by simp at e
variable {d : Addr} {o : Obj} {es : Array DictEntry} {ep : Nat} {L : List RK}
/-- the places of one hash -/
abbrev plc (es : Array DictEntry) (h : Int) : List Nat := placesWithHash es.size (fun i => es[i]?.map (·.hash)) h
theorem plc_in {P : Program} {w : World} {h : Heap} (pr : Paired (RE P w h) L es.toList) {k : RK} {i : Nat} (hi : i ∈ plc es (kh P w k)) : ∃ e k', es[i]? = some e ∧ e.hash = kh P w k ∧ L[i]? = some k' ∧ RE P w h k' e := by
  obtain ⟨_, h2⟩ := List.mem_filter.mp hi
  dsimp only at h2
  cases he : es[i]? with
  | none =>
    rw [he] at h2
    cases h2
  | some e =>
    rw [he] at h2
    obtain ⟨k', g1, g2⟩ := pair_right pr (show es.toList[i]? = some e by rw [Array.getElem?_toList]; exact he)
    exact ⟨e, k', rfl, by simpa using h2, g1, g2⟩
theorem plc_of {P : Program} {w : World} {h : Heap} (pr : Paired (RE P w h) L es.toList) {k : RK} {j : Nat} (hj : L[j]? = some k) : j ∈ plc es (kh P w k) := by
  obtain ⟨e, h1, h2⟩ := pair_left pr hj
  rw [Array.getElem?_toList] at h1
  refine List.mem_filter.mpr ⟨List.mem_range.mpr (Array.getElem?_eq_some_iff.mp h1).1, ?_⟩
  dsimp only
  rw [h1]
  simp [h2.1]
theorem plc_nd (es : Array DictEntry) (h : Int) : (plc es h).Nodup := List.Pairwise.filter _ List.nodup_range
theorem one_place (nd : L.Nodup) {i j : Nat} {k : RK} (hi : L[i]? = some k) (hj : L[j]? = some k) : i = j := (List.getElem?_inj (List.getElem?_eq_some_iff.mp hi).1 nd).mp (hi.trans hj.symm)
theorem wp_cases {α : Type} {c : Prop} [Decidable c] {x y : Sem α} {Q : α → Shared → Prop} (h1 : c → wpAny (model P w) A x Q E s) (h2 : ¬ c → wpAny (model P w) A y Q E s) : wpAny (model P w) A (if c then x else y) Q E s := by
  by_cases h : c
  · rw [if_pos h]
    exact h1 h
  · rw [if_neg h]
    exact h2 h
/-- the places that are left, what was met -/
def Left (L : List RK) (k : RK) (rest : List Nat) : Prop := rest.Nodup ∧ ∀ j, L[j]? = some k → j ∈ rest
theorem find_k {k : RK} {v : Value} {Q : Option Nat → Shared → Prop} (hu : A.units < cLine) (lk : KAt P w s.heap k v) (ho : s.heap.get? d = some o) (hd : o.data = .dict es ep) (pr : Paired (RE P w s.heap) L es.toList) (nd : L.Nodup)
    (no : k ∉ L → Q none s) (yes : ∀ j, L[j]? = some k → Q (some j) s) : wpAny (model P w) A (dictFind d v (kh P w k)) Q E s := by
  have mem_at : k ∈ L → ∃ j, L[j]? = some k := fun h => List.mem_iff_getElem?.mp h
  have stored : ∀ u, u ∈ (plc es (kh P w k)).filterMap (fun i => es[i]?.map (·.key)) → ∃ k', KAt P w s.heap k' u := fun u hu' => by
    obtain ⟨i, hi, e⟩ := List.mem_filterMap.mp hu'
    obtain ⟨en, k', h1, _, _, h2⟩ := plc_in pr hi
    rw [h1] at e
    exact ⟨k', Option.some.inj e ▸ h2.2.1⟩
  have plain : wpAny (model P w) A (dictWalkPlain d v (kh P w k) es (plc es (kh P w k))) Q E s := by
    unfold dictWalkPlain
    apply wpAny_bind
    refine wpAny_forIn_list _ (fun rest b z => z = s ∧ b = (none, ()) ∧ Left L k rest ∧ ∀ i, i ∈ rest → i ∈ plc es (kh P w k)) _ (fun x rest b z hz => ?_) (fun b z hz => ?_) _ _ ⟨rfl, rfl, ⟨plc_nd _ _, fun j hj => plc_of pr hj⟩, fun i hi => hi⟩
    · obtain ⟨rfl, rfl, ⟨nr, lf⟩, sub⟩ := hz
      obtain ⟨en, k', h1, h2, h3, h4⟩ := plc_in pr (sub x List.mem_cons_self)
      rw [h1]
      dsimp only
      rw [if_pos (by rw [h2]; exact beq_self_eq_true _)]
      apply wpAny_bind
      refine wpAny_dictEpoch ho hd ?_
      apply wpAny_bind
      refine k_eq hu h4.2.1 lk ?_
      apply wpAny_bind
      refine wpAny_dictEpoch ho hd ?_
      rw [if_neg (by simp)]
      (try (apply wpAny_bind; apply wpAny_pure))
      by_cases c : k' = k
      · rw [decide_eq_true c]
        subst c
        simp only [if_true]
        apply wpAny_bind
        exact wpAny_rule (wpAny_pure (wpAny_pure (yes x h3)))
      · rw [decide_eq_false c]
        simp only [Bool.false_eq_true, if_false]
        (try (apply wpAny_bind; apply wpAny_pure))
        apply wpAny_bind
        refine wpAny_rule (wpAny_pure ⟨rfl, rfl, ⟨(List.nodup_cons.mp nr).2, fun j hj => ?_⟩, fun i hi => sub i (List.mem_cons_of_mem _ hi)⟩)
        rcases List.mem_cons.mp (lf j hj) with e | e
        · rw [e, h3] at hj
          exact absurd (Option.some.inj hj) c
        · exact e
    · obtain ⟨rfl, rfl, ⟨_, lf⟩, _⟩ := hz
      refine wpAny_pure (no fun hm => ?_)
      obtain ⟨j, hj⟩ := mem_at hm
      exact nomatch lf j hj
  have lk0 := lk
  unfold dictFind
  apply wpAny_holding
  apply wpAny_bind
  refine wpAny_dictEntries ho hd ?_
  have shape : (∃ i t, v = .int i t) ∨ v = .none ∨ ∃ b, v = .ref b := by
    cases k with
    | nm i => exact lk.elim fun t e => .inl ⟨i, t, e⟩
    | no => exact .inr (.inl lk)
    | tp p => exact lk.elim fun b e => .inr (.inr ⟨b, e.1⟩)
  have clean : ∀ b, v = .ref b → ¬ (es.any fun e => e.key == Value.ref b && e.hash != kh P w k) = true := by
    rintro b rfl
    rw [← Array.any_toList, List.any_eq_true]
    rintro ⟨e, he, c⟩
    obtain ⟨j, hj⟩ := List.mem_iff_getElem?.mp he
    obtain ⟨k', h1, h2, h3, _⟩ := pair_right pr hj
    simp only [Bool.and_eq_true, beq_iff_eq, bne_iff_ne, ne_eq] at c
    obtain ⟨c1, c2⟩ := c
    rw [c1] at h3
    refine c2 ?_
    rw [h2]
    cases k with
    | nm i =>
      obtain ⟨t, e⟩ := lk
      cases e
    | no => cases (show Value.ref b = Value.none from lk)
    | tp p =>
      obtain ⟨b', e', lb⟩ := lk
      cases e'
      cases k' with
      | nm i =>
        obtain ⟨t, e⟩ := h3
        cases e
      | no => cases (show Value.ref b = Value.none from h3)
      | tp p' =>
        obtain ⟨b', e, lb'⟩ := h3
        cases e
        rw [pk_inj (IsTupleKey.inj lb' lb)]
  rcases shape with ⟨i, t, rfl⟩ | rfl | ⟨b, rfl⟩
  case' inl =>
    dsimp only
    refine wp_cases (fun _ => plain) (fun _ => ?_)
  case' inr.inl =>
    dsimp only
    refine wp_cases (fun _ => plain) (fun _ => ?_)
  case' inr.inr =>
    dsimp only
    rw [if_neg (by simp [carriedByValue]), if_neg (clean b rfl)]
  all_goals
    refine wp_cases (fun _ => wpAny_bind (wpAny_pure ?_)) (fun _ => wpAny_bind (none_tells lk0 stored ?_))
  all_goals
    rw [if_neg (by simp)]
    apply wpAny_bind
    refine wpAny_forIn_list _ (fun rest b z => z = s ∧ (∀ i, i ∈ rest → i ∈ plc es (kh P w k)) ∧ rest.Nodup ∧ b.1 = none ∧ ((b.2 = none ∧ ∀ j, L[j]? = some k → j ∈ rest) ∨ ∃ j, b.2 = some j ∧ L[j]? = some k ∧ j ∉ rest)) _ (fun x rest b z hz => ?_) (fun b z hz => ?_) _ _
      ⟨rfl, fun i hi => hi, plc_nd _ _, rfl, .inl ⟨rfl, fun j hj => plc_of pr hj⟩⟩
    · obtain ⟨rfl, sub, nr, hb, met⟩ := hz
      obtain ⟨b1, b2⟩ := b
      dsimp only at hb met
      subst hb
      obtain ⟨en, k', h1, h2, h3, h4⟩ := plc_in pr (sub x List.mem_cons_self)
      have nr' := List.nodup_cons.mp nr
      rw [h1]
      dsimp only
      rw [if_pos (by rw [h2]; exact beq_self_eq_true _)]
      apply wpAny_bind
      refine wpAny_dictEpoch ho hd ?_
      apply wpAny_bind
      refine k_eq hu h4.2.1 lk ?_
      apply wpAny_bind
      refine wpAny_dictEpoch ho hd ?_
      rw [if_neg (by simp)]
      (try (apply wpAny_bind; apply wpAny_pure))
      by_cases c : k' = k
      · rw [decide_eq_true c]
        subst c
        simp only [if_true]
        have hb2 : b2 = none := by
          rcases met with ⟨e, _⟩ | ⟨j, _, hj, hn⟩
          · exact e
          · exact absurd (one_place nd hj h3 ▸ List.mem_cons_self) hn
        subst hb2
        simp only [Option.isSome_none, Bool.false_eq_true, if_false]
        (try (apply wpAny_bind; apply wpAny_pure))
        apply wpAny_bind
        refine wpAny_rule ?_
        split
        · exact wpAny_pure (wpAny_pure (yes x h3))
        · exact wpAny_pure ⟨rfl, fun i hi => sub i (List.mem_cons_of_mem _ hi), nr'.2, rfl, .inr ⟨x, rfl, h3, nr'.1⟩⟩
      · rw [decide_eq_false c]
        simp only [Bool.false_eq_true, if_false]
        apply wpAny_bind
        refine wpAny_rule ?_
        (try (apply wpAny_bind; apply wpAny_pure))
        refine wpAny_pure ⟨rfl, fun i hi => sub i (List.mem_cons_of_mem _ hi), nr'.2, rfl, ?_⟩
        rcases met with ⟨e, lf⟩ | ⟨j, e, hj, hn⟩
        · refine .inl ⟨e, fun j hj => ?_⟩
          rcases List.mem_cons.mp (lf j hj) with e | e
          · rw [e, h3] at hj
            exact absurd (Option.some.inj hj) c
          · exact e
        · exact .inr ⟨j, e, hj, fun h => hn (List.mem_cons_of_mem _ h)⟩
    · obtain ⟨rfl, _, _, hb, met⟩ := hz
      obtain ⟨b1, b2⟩ := b
      dsimp only at hb met
      subst hb
      rcases met with ⟨rfl, lf⟩ | ⟨j, rfl, hj, _⟩
      · refine wpAny_pure (no fun hm => ?_)
        obtain ⟨j, hj⟩ := mem_at hm
        exact nomatch lf j hj
      · exact wpAny_pure (yes j hj)
/-- the dict of these keys at d -/
abbrev RL := List (RK × Addr)
/-- the key as it stands there -/
def AtK : RK × Addr → Value → Prop
  | (.tp _, b), v => v = .ref b
  | (.nm i, _), v => ∃ t, v = .int i t
  | (.no, _), v => v = .none
def RE2 (P : Program) (w : World) (h : Heap) (x : RK × Addr) (e : DictEntry) : Prop := RE P w h x.1 e ∧ AtK x e.key
theorem pair_re {P : Program} {w : World} {h : Heap} : ∀ {La : RL} {m : List DictEntry}, Paired (RE2 P w h) La m → Paired (RE P w h) (La.map (·.1)) m
  | _, _, .nil => .nil
  | _, _, .cons f t => .cons f.1 (pair_re t)
def RDict (P : Program) (w : World) (h : Heap) (d : Addr) (La : RL) : Prop := ∃ o es ep, h.get? d = some o ∧ o.ExactDict ∧ o.data = .dict es ep ∧ Paired (RE2 P w h) La es.toList ∧ (La.map (·.1)).Nodup
def putR (x : RK × Addr) (L : RL) : RL := if x.1 ∈ L.map (·.1) then L else L ++ [x]
theorem mem_putR {x : RK × Addr} {z : RK} {L : RL} : z ∈ (putR x L).map (·.1) ↔ z ∈ L.map (·.1) ∨ z = x.1 := by
  unfold putR
  by_cases h : x.1 ∈ L.map (·.1)
  · rw [if_pos h]
    exact ⟨.inl, fun e => e.elim id fun e => e ▸ h⟩
  · rw [if_neg h, List.map_append, List.mem_append, List.map_singleton, List.mem_singleton]
theorem in_putR {x y : RK × Addr} {L : RL} (h : y ∈ putR x L) : y ∈ L ∨ y = x := by
  unfold putR at h
  split at h
  · exact .inl h
  · exact (List.mem_append.mp h).imp id List.mem_singleton.mp
theorem putR_len (x : RK × Addr) (L : RL) : (putR x L).length ≤ L.length + 1 := by
  unfold putR
  split
  · omega
  · rw [List.length_append]
    exact Nat.le_refl _
theorem kat_but {h g : Heap} {k : RK} {v : Value} {d : Addr} {o : Obj} {es : Array DictEntry} {ep : Nat} (l : KAt P w h k v) (ho : h.get? d = some o) (hd : o.data = .dict es ep) (sb : Heap.SameBut d h g) : KAt P w g k v := by
  cases k with
  | nm i => exact l
  | no => exact l
  | tp p =>
    obtain ⟨b, e, lb⟩ := l
    exact ⟨b, e, lb.keeps ho hd sb⟩
theorem kat_keep {h g : Heap} {k : RK} {v : Value} (l : KAt P w h k v) (hk : ∀ b o, h.get? b = some o → g.get? b = some o) : KAt P w g k v := by
  cases k with
  | nm i => exact l
  | no => exact l
  | tp p =>
    obtain ⟨b, e, lb⟩ := l
    exact ⟨b, e, lies_keep lb hk⟩
theorem pair_mono {α β : Type} {F G : α → β → Prop} (hm : ∀ a b, F a b → G a b) : ∀ {l : List α} {m : List β}, Paired F l m → Paired G l m
  | _, _, .nil => .nil
  | _, _, .cons f t => .cons (hm _ _ f) (pair_mono hm t)
theorem pair_snoc {α β : Type} {F : α → β → Prop} {a : α} {b : β} (f : F a b) : ∀ {l : List α} {m : List β}, Paired F l m → Paired F (l ++ [a]) (m ++ [b])
  | _, _, .nil => .cons f .nil
  | _, _, .cons g t => .cons g (pair_snoc f t)
/-- one more key, its value True -/
theorem set_k {x : RK × Addr} {v : Value} {La : RL} {Q : Unit → Shared → Prop} (hu : A.units < cLine) (lk : KAt P w s.heap x.1 v) (at_ : AtK x v) (D : RDict P w s.heap d La) (small : La.length < sizeLine)
    (hQ : ∀ h', Heap.SameBut d s.heap h' → RDict P w h' d (putR x La) → Q () { s with heap := h', toks := s.toks + kdr x.1 }) : wpAny (model P w) A (dictSet d v (.bool true)) Q E s := by
  obtain ⟨o, es, ep, ho, hx, hd, pr2, nd⟩ := D
  have pr := pair_re pr2
  have len : es.size = La.length := by
    have z := Paired.length pr2
    rw [Array.length_toList] at z
    exact z.symm
  unfold dictSet
  apply wpAny_holding
  apply wpAny_bind
  refine k_hash hu lk ?_
  unfold dictSetHashed
  apply wpAny_holding
  apply wpAny_bind
  refine find_k (s := { s with toks := s.toks + kdr x.1 }) hu lk ho hd pr nd (fun hn => ?_) fun j hj => ?_
  · apply wpAny_bind
    refine wpAny_rule (wpAny_updateDictKeys (s := { s with toks := s.toks + kdr x.1 }) (hz := by omega) ho hd ?_)
    have sb := Heap.SameBut.update s.heap d (Obj.mapDictKeys fun y => y.push ⟨kh P w x.1, v, .bool true⟩)
    refine hQ _ sb ⟨_, _, ep + 1, Heap.get?_update_self _ ho (Obj.isFreed_of_dict (Obj.data_mapDictKeys hd _)), hx.mapDictKeys _, Obj.data_mapDictKeys hd _, ?_, ?_⟩
    · unfold putR
      rw [if_neg hn, Array.toList_push]
      exact pair_snoc ⟨⟨rfl, kat_but lk ho hd sb, rfl⟩, at_⟩ (pair_mono (fun a b f => ⟨⟨f.1.1, kat_but f.1.2.1 ho hd sb, f.1.2.2⟩, f.2⟩) pr2)
    · unfold putR
      rw [if_neg hn, List.map_append]
      exact List.nodup_append.mpr ⟨nd, List.pairwise_singleton _ _, fun a ha b hb e => hn (by rw [List.map_singleton, List.mem_singleton] at hb; rw [hb] at e; exact e ▸ ha)⟩
  · have hin : x.1 ∈ La.map (·.1) := List.mem_of_getElem? hj
    apply wpAny_bind
    refine wpAny_rule ?_
    apply wpAny_bind
    refine wpAny_updateDict (s := { s with toks := s.toks + kdr x.1 }) ho hd (wpAny_point ?_)
    have sb := Heap.SameBut.update s.heap d (Obj.mapDict fun y => y.modify j fun e => { e with val := Value.bool true })
    refine hQ _ sb ⟨_, _, ep, Heap.get?_update_self _ ho (Obj.isFreed_of_dict (Obj.data_mapDict hd _)), hx.mapDict _, Obj.data_mapDict hd _, ?_, ?_⟩
    · unfold putR
      rw [if_pos hin]
      have e : (es.modify j fun e => { e with val := Value.bool true }) = es := by
        apply Array.ext
        · rw [Array.size_modify]
        · intro i h1 h2
          rw [Array.getElem_modify]
          split
          · obtain ⟨k', _, _, _, e⟩ := pair_right pr (show es.toList[i]? = some es[i] by rw [Array.getElem?_toList]; exact Array.getElem?_eq_getElem h2)
            cases q : es[i] with
            | mk a b c =>
              rw [q] at e
              simp only at e
              rw [e]
          · rfl
      rw [e]
      exact pair_mono (fun a b f => ⟨⟨f.1.1, kat_but f.1.2.1 ho hd sb, f.1.2.2⟩, f.2⟩) pr2
    · unfold putR
      rw [if_pos hin]
      exact nd
theorem get_k {k : RK} {v : Value} {La : RL} {Q : Option Value → Shared → Prop} (hu : A.units < cLine) (lk : KAt P w s.heap k v) (D : RDict P w s.heap d La) (h : Q (if k ∈ La.map (·.1) then some (.bool true) else none) { s with toks := s.toks + kdr k }) :
    wpAny (model P w) A (dictGet d v) Q E s := by
  obtain ⟨o, es, ep, ho, hx, hd, pr2, nd⟩ := D
  have pr := pair_re pr2
  unfold dictGet
  apply wpAny_holding
  apply wpAny_bind
  refine k_hash hu lk ?_
  apply wpAny_bind
  refine find_k (s := { s with toks := s.toks + kdr k }) hu lk ho hd pr nd (fun hn => ?_) fun j hj => ?_
  · rw [if_neg hn] at h
    exact wpAny_pure h
  · rw [if_pos (List.mem_of_getElem? hj)] at h
    obtain ⟨e, h1, _, _, h2⟩ := pair_left pr hj
    rw [Array.getElem?_toList] at h1
    dsimp only
    apply wpAny_bind
    refine wpAny_dictEntries (s := { s with toks := s.toks + kdr k }) ho hd ?_
    rw [h1, Option.map_some, h2]
    exact wpAny_pure h
theorem rd_type {La : RL} (D : RDict P w s.heap d La) : s.TypeIs (.ref d) "dict" := by
  obtain ⟨o, es, ep, ho, hx, _⟩ := D
  exact ⟨o, ho, hx.1⟩
/-- v in d -/
theorem in_k {k : RK} {v : Value} {La : RL} {Q : Value → Shared → Prop} (hu : A.units + 1 < cLine) (lk : KAt P w s.heap k v) (D : RDict P w s.heap d La) (low : (d == sysModules) = false) (h : Q (.bool (decide (k ∈ La.map (·.1)))) { s with toks := s.toks + kdr k }) :
    wpAny (model P w) A (compareOp .In v (.ref d)) Q E s := by
  show wpAny (model P w) A (do return .bool (← contains (.ref d) v)) Q E s
  apply wpAny_bind
  unfold contains
  apply wpAny_holding
  apply wpAny_bind
  refine wpAny_specialOf (rd_type D) F.slot_dict_contains.lookup ?_
  show wpAny (model P w) A (if (some (Value.builtin "dict.__contains__") == some Value.none) = true then _ else _) _ E s
  refine wp_cases (fun c => absurd c (by rw [beq_builtin_none]; exact Bool.false_ne_true)) fun _ => ?_
  apply wpAny_bind
  refine wpAny_callSpecialUnlessNone?_slot (name := Str.ofString "__contains__") (rd_type D) F.slot_dict_contains (wpAny_call_entry F.slot_dict_contains (rd_type D) F.entry_dict_contains ?_ (F.args_dict_contains_2 _ _))
  show wpAny (model P w) _ (dictGet d v >>= _) _ _ s
  apply wpAny_bind
  refine get_k (show A.units + 1 < cLine from hu) lk D ?_
  by_cases c : k ∈ La.map (·.1)
  · rw [if_pos c]
    rw [decide_eq_true c] at h
    show wpAny (model P w) _ (ret (.bool true)) _ _ _
    exact wpAny_pure ⟨_, rfl, wpAny_truthy_bool (wpAny_pure h)⟩
  · rw [if_neg c]
    rw [decide_eq_false c] at h
    show wpAny (model P w) _ (Builtin.Dict.pendingKey? d v >>= _) _ _ _
    apply wpAny_bind
    exact wpAny_pendingKey_other low (wpAny_pure ⟨_, rfl, wpAny_truthy_bool (wpAny_pure h)⟩)
/-- d[v] = True -/
theorem put_k {x : RK × Addr} {v : Value} {La : RL} {Q : Unit → Shared → Prop} (hu : A.units + 1 < cLine) (lk : KAt P w s.heap x.1 v) (at_ : AtK x v) (D : RDict P w s.heap d La) (small : La.length < sizeLine)
    (hQ : ∀ h', Heap.SameBut d s.heap h' → RDict P w h' d (putR x La) → Q () { s with heap := h', toks := s.toks + kdr x.1 }) : wpAny (model P w) A (setItem (.ref d) v (.bool true)) Q E s := by
  unfold setItem
  apply wpAny_holding
  apply wpAny_bind
  refine wpAny_sequenceKey (rd_type D) (by decide) ?_
  apply wpAny_bind
  refine wpAny_callSpecial?_slot (name := Str.ofString "__setitem__") (rd_type D) F.slot_dict_setitem (wpAny_call_entry F.slot_dict_setitem (rd_type D) F.entry_dict_setitem ?_ (F.args_dict_setitem_3 _ _ _))
  show wpAny (model P w) _ (Builtin.Dict.notOrdered "__setitem__" ⟨[.ref d, v, .bool true], []⟩ >>= _) _ _ s
  apply wpAny_bind
  refine wpAny_notOrdered_dict (rd_type D) ?_
  show wpAny (model P w) _ (dictSet d v (.bool true) >>= _) _ _ s
  apply wpAny_bind
  exact set_k (show A.units + 1 < cLine from hu) lk at_ D small fun h' sb D' => wpAny_pure ⟨.none, rfl, wpAny_pure (hQ h' sb D')⟩
end
end UA

/-! The dict of pairs and ints as an object of the hand layer: in, d[k] = True, a comprehension {pair: True for ..}. -/
namespace UA
open PySem PySem.Spec PyProof.Rows L2 PpSet
/-- the dict at d, without its tuples -/
structure BareD (P : Program) (w : World) (h : Heap) (d : Addr) (La : RL) : Prop where
  low : (d == sysModules) = false
  len : La.length ≤ sizeLine
  ex : ∃ (o : Obj) (es : Array DictEntry) (ep : Nat), h.get? d = some o ∧ o.ExactDict ∧ o.data = .dict es ep ∧ Paired (fun (x : RK × Addr) (e : DictEntry) => e.hash = kh P w x.1 ∧ AtK x e.key ∧ e.val = .bool true) La es.toList ∧ (La.map (·.1)).Nodup
def RdO (P : Program) (w : World) (d : Addr) (La : RL) : HO := .ext fun h => BareD P w h d La
/-- its tuples lie there -/
def KeysH (H : Hp) (La : RL) : Prop := ∀ x, x ∈ La → ∀ p, x.1 = .tp p → H x.2 = some (.tup [.str p.1, .str p.2])
/-- this value is this key -/
def VKey (H : Hp) : RK × Addr → V → Prop
  | (.tp p, b), y => y = .ref b ∧ H b = some (.tup [.str p.1, .str p.2])
  | (.nm i, _), y => y = .int i
  | (.no, _), y => y = .non
theorem KeysH.keep {H H' : Hp} {La : RL} (h : KeysH H La) (k : ∀ b xs, H b = some (.tup xs) → H' b = some (.tup xs)) : KeysH H' La := fun x hx p e => k _ _ (h x hx p e)
theorem KeysH.put {H : Hp} {La : RL} {z : RK × Addr} {y : V} (h : KeysH H La) (k : VKey H z y) : KeysH H (putR z La) := fun x hx p e => by
  rcases in_putR hx with hx | rfl
  · exact h x hx p e
  · obtain ⟨c, b⟩ := x
    cases c with
    | tp p' =>
      cases e
      exact k.2
    | nm i => cases e
    | no => cases e
theorem rd_new {P : Program} {w : World} {H : Hp} {h : Heap} {d : Addr} {La : RL} (B : BareD P w h d La) : ObjOk P w H h d (RdO P w d La) := by
  obtain ⟨o, es, ep, ho, r⟩ := B.ex
  refine ⟨B, ⟨o, ho⟩, fun h1 h2 b k => ?_⟩
  obtain ⟨o', es', ep', ho', r'⟩ := BareD.ex b
  exact ⟨BareD.low b, BareD.len b, o', es', ep', k o' ho', r'⟩
theorem rd_at {P : Program} {w : World} {H : Hp} {h : Heap} {d : Addr} {La : RL} (ok : HOk P w H h) (e : H d = some (RdO P w d La)) (kk : KeysH H La) : RDict P w h d La ∧ (d == sysModules) = false ∧ La.length ≤ sizeLine := by
  have B : BareD P w h d La := (ok d _ e).1
  obtain ⟨o, es, ep, ho, hx, hd, pr, nd⟩ := B.ex
  refine ⟨⟨o, es, ep, ho, hx, hd, ?_, nd⟩, B.low, B.len⟩
  clear nd B hd e
  generalize es.toList = m at pr
  induction pr with
  | nil => exact .nil
  | @cons x en l m f t ih =>
    refine .cons ⟨⟨f.1, ?_, f.2.2⟩, f.2.1⟩ (ih fun y hy => kk y (List.mem_cons_of_mem _ hy))
    have h1 := kk x List.mem_cons_self
    obtain ⟨c, b⟩ := x
    have h2 := f.2.1
    cases c with
    | tp p => exact ⟨b, h2, lies_pair ok (h1 p rfl)⟩
    | nm i => exact h2
    | no => exact h2
theorem rd_bare {P : Program} {w : World} {h : Heap} {d : Addr} {La : RL} (D : RDict P w h d La) (low : (d == sysModules) = false) (len : La.length ≤ sizeLine) : BareD P w h d La := by
  obtain ⟨o, es, ep, ho, hx, hd, pr, nd⟩ := D
  exact ⟨low, len, o, es, ep, ho, hx, hd, pair_mono (fun a b f => ⟨f.1.1, f.2, f.1.2.2⟩) pr, nd⟩
theorem rd_empty {P : Program} {w : World} (h : Heap) (hb : sysModules < h.objs.size) : BareD P w (h.push { cls := .type "dict", data := .dict #[] }) h.objs.size [] :=
  ⟨beq_eq_false_iff_ne.mpr (Ne.symm (Nat.ne_of_lt hb)), Nat.zero_le _, _, #[], 0, Heap.get?_push_size _ rfl, ⟨rfl, rfl, rfl⟩, rfl, .nil, List.nodup_nil⟩
theorem vkey_at {P : Program} {w : World} {H : Hp} {h : Heap} (ok : HOk P w H h) {z : RK × Addr} {y : V} {u : Value} (k : VKey H z y) (r : RelV y u) : KAt P w h z.1 u ∧ AtK z u := by
  obtain ⟨c, b⟩ := z
  cases c with
  | tp p =>
    obtain ⟨rfl, hb⟩ := k
    have e : u = .ref b := r
    exact ⟨⟨b, e, lies_pair ok hb⟩, e⟩
  | nm i =>
    have e : y = .int i := k
    subst e
    exact ⟨r, r⟩
  | no =>
    have e : y = .non := k
    subst e
    exact ⟨r, r⟩
section
variable {X : Cx}
def tKIn (P : Program) (w : World) (ty td : TE) : TE := fun σ H Q => ty σ H fun y H1 => td σ H1 fun x H2 => ∃ (a : Addr) (La : RL) (z : RK × Addr), x = .ref a ∧ H2 a = some (RdO P w a La) ∧ KeysH H2 La ∧ VKey H2 z y ∧ Q (.bl (decide (z.1 ∈ La.map (·.1)))) H2
variable {o i value : Expr} {pos pos' : Pos} {td ty tv : TE}
/-- k in d -/
theorem pc_kin (hu : X.A.units + 1 < cLine) (hi : PE X i ty) (ho : PE X o td) : PC X .In i o (tKIn X.prog X.w ty td) := by
  refine ⟨fun pins s σ H Q I h => ?_⟩
  refine thn (hi.run pins s σ H _ I h) fun u s1 ⟨y, H1, I1, ry, q1⟩ => thn (ho.run pins s1 σ H1 _ I1 q1) fun v s2 ⟨x, H2, I2, rx, a, La, z, ex, e, kk, vk, q2⟩ => ?_
  subst ex
  obtain rfl : v = Value.ref a := rx
  obtain ⟨D, low, _⟩ := rd_at I2.hok e kk
  exact in_k hu (vkey_at I2.hok vk ry).1 D low ⟨.bl _, H2, I2.tok _, rfl, q2⟩
def sKPut (P : Program) (w : World) (td ty tv : TE) : TS := fun D σ H => tv σ H fun v H1 => td σ H1 fun x H2 => ty σ H2 fun y H3 => ∃ (a : Addr) (La : RL) (z : RK × Addr), x = .ref a ∧ v = .bl true ∧ H3 a = some (RdO P w a La) ∧ KeysH H3 La ∧ VKey H3 z y ∧ La.length < sizeLine ∧ D.nx σ (upd H3 a (RdO P w a (putR z La)))
/-- d[k] = True -/
theorem ps_kput (hu : X.A.units + 1 < cLine) (ho : PE X o td) (hi : PE X i ty) (hv : PE X value tv) (hs : swapsWith value (some (.Subscript o i pos')) pos.line X.env = pure false) :
    PS X (.Assign [.Subscript o i pos'] value pos) (sKPut X.prog X.w td ty tv) := by
  refine ⟨fun pins s σ H D I h => ?_⟩
  refine wpAny_Assign_Subscript (thn (hv.run pins s σ H _ I h) fun r s1 ⟨v, H1, I1, rv, q1⟩ => thn (ho.run pins s1 σ H1 _ I1 q1) fun u s2 ⟨x, H2, I2, rx, q2⟩ => thn (hi.run pins s2 σ H2 _ I2 q2) fun iv s3 ⟨y, H3, I3, ry, a, La, z, ex, ev, e, kk, vk, small, q3⟩ => ?_) hs
  subst ex ev
  obtain rfl : u = Value.ref a := rx
  obtain rfl : r = Value.bool true := rv
  obtain ⟨D0, low, _⟩ := rd_at I3.hok e kk
  obtain ⟨k1, k2⟩ := vkey_at I3.hok vk ry
  refine put_k hu k1 k2 D0 small fun h' sb D' => ?_
  have len : (putR z La).length ≤ sizeLine := Nat.le_trans (putR_len z La) small
  have B := rd_bare D' low len
  obtain ⟨o', es', ep', ho', _⟩ := B.ex
  exact ⟨σ, _, d_write I3 (by rw [e]; trivial) sb ⟨o', ho'⟩ (rd_new B), q3⟩
end
/-- one turn of {k: True for ..}: target, tests, key, value -/
def TurnD (P : Program) (w : World) (g : TG) (tt : TT) (tk tv : TE) (vs : List Nat) (σ : L2.St) (D : Addr) (Nx : Hp → Prop) (x : V) (H : Hp) : Prop :=
  g x (wipe σ vs) H fun σ2 H2 => wipe σ2 vs = wipe σ vs ∧ tt σ2 H2 fun b H3 => if b = true then tk σ2 H3 fun y H4 => tv σ2 H4 fun t H5 => ∃ (La : RL) (z : RK × Addr), t = .bl true ∧ H5 D = some (RdO P w D La) ∧ KeysH H5 La ∧ VKey H5 z y ∧ La.length < sizeLine ∧ Nx (upd H5 D (RdO P w D (putR z La))) else Nx H3
def tDcR (P : Program) (w : World) (wi : TI) (g : TG) (tt : TT) (tk tv : TE) (vs : List Nat) : TE := fun σ H Q => wi σ H fun J H1 => ∀ D, H1 D = none → ∃ W : Nat → Nat → Hp → Prop, (∃ m, W 0 m (upd H1 D (RdO P w D []))) ∧ ∀ i m H, W i m H →
  (J.stop i H ∧ Q (.ref D) H) ∨ (J.go i H ∧ ∃ Nx : Hp → Prop, (∀ H', Nx H' → ∃ m', m' < m ∧ W (i + 1) m' H') ∧ ∀ x H', J.yld i H x H' → TurnD P w g tt tk tv vs σ D Nx x H')
section
variable {X : Cx}
theorem dcR_core {pins : List (Addr × Obj)} {s : Shared} {σ : L2.St} {H : Hp} {Q : VK} {kx vx tg iter : Expr} {ifs : List Expr} {scope : Scope} {own : List (PySem.Str × Nat)} {pos pos' : Pos} {wi : TI} {g : TG} {tt : TT} {tk tv : TE} {use : Option (Value → Sem Unit)} {Qf : Value → Shared → Prop} (hc : X.calm = true) (hu : X.A.units < cLine) (hN : X.N.Nodup)
    (I : Inv X pins σ H s) (hi : PI X tg iter wi) (ok : BlkOk X.N X.env.scope scope own)
    (hg : ∀ (s : Shared) (H : Hp) (C : Addr) (cl : List (PySem.Str × Addr)) (fp : List Addr), PG (X.blk s H scope (compEnvC scope cl C X.env) fp) tg g) (ht : ∀ (s : Shared) (H : Hp) (C : Addr) (cl : List (PySem.Str × Addr)) (fp : List Addr), PTs (X.blk s H scope (compEnvC scope cl C X.env) fp) ifs tt)
    (hk : ∀ (s : Shared) (H : Hp) (C : Addr) (cl : List (PySem.Str × Addr)) (fp : List Addr), PE (X.blk s H scope (compEnvC scope cl C X.env) fp) kx tk)
    (he : ∀ (s : Shared) (H : Hp) (C : Addr) (cl : List (PySem.Str × Addr)) (fp : List Addr), PE (X.blk s H scope (compEnvC scope cl C X.env) fp) vx tv) (hs : ∀ x, foldedSetIterable iter X.env x = pure x)
    (h : tDcR X.prog X.w wi g tt tk tv (own.map (·.2)) σ H Q)
    (hRR : ∀ D C s' m H', Inv X pins σ H' s' → Q (.ref D) H' → s'.heap.Ns C m → FpOk X pins H' C → compPost (model X.prog X.w) X.A X.xe use Qf (.ref D) C (.ok .next) s') :
    wpAny (model X.prog X.w) X.A (comprehension (.DictComp kx vx [⟨tg, iter, ifs, 0⟩] scope pos) scope X.env pos' newDict false (eval iter X.env) use) Qf X.xe s := by
  have free : ∀ y ∈ scope.names, y.2 = .free → ∃ c, X.env.cells.lookup y.1 = some c := fun y hy e => (ok.free y hy e).elim (fun k => I.ok.has _ (.inl k)) (fun k => I.ok.has _ (.inr k))
  refine wpAny_comprehension_free (use := use) rfl hs (closure_ok free) ok.kind (fun y hy e => by rw [ok.uniq y hy, e]) (thn (hi.run pins s σ H _ I h) fun xv s1 hx => thn hx fun itv s2 h2 => ?_)
  obtain ⟨it, fp, tn, J, H2, e, I2, T, st2, f2, q⟩ := h2
  subst e
  refine wpAny_newObj_type (newEnv_comp ?_)
  -- the new dict is tracked
  obtain ⟨D, hD⟩ : ∃ D, s2.heap.objs.size = D := ⟨_, rfl⟩
  rw [hD]
  obtain ⟨W, ⟨m0, w0⟩, turn⟩ := q D (I2.hok.fresh (Nat.le_of_eq hD))
  obtain ⟨s3, hs3⟩ : ∃ s3 : Shared, ({ s2 with heap := s2.heap.push { cls := .type "dict", data := .dict #[] } } : Shared) = s3 := ⟨_, rfl⟩
  have h3 : s3.heap = s2.heap.push { cls := .type "dict", data := .dict #[] } := by rw [← hs3]
  obtain ⟨H3, hH3⟩ : ∃ H3, upd H2 D (RdO X.prog X.w D []) = H3 := ⟨_, rfl⟩
  have I3 : Inv X pins σ H3 s3 := by
    rw [← hs3, ← hH3]
    refine I2.laid (t' := s2.toks) (fun b o e => Heap.get?_push_of_some _ e) (Nat.le_of_eq hD) ?_
    rw [← hD]
    exact rd_new (rd_empty s2.heap I2.big)
  rw [hs3]
  rw [hH3] at w0
  -- what the iterator stands upon is not tracked
  have foot : ∀ b ∈ fp, FpOk X pins H3 b ∧ b < s3.heap.objs.size := fun b hb => by
    obtain ⟨o, e, _⟩ := T.obj _ _ st2 b hb
    have lt := Heap.lt_size e
    refine ⟨⟨?_, (f2 b hb).2⟩, ?_⟩
    · rw [← hH3, upd_ne (by rw [← hD]; exact Nat.ne_of_lt lt)]
      exact (f2 b hb).1
    · rw [h3, Heap.size_push]
      exact Nat.lt_succ_of_lt lt
  have st3 : tn 0 s3.heap := T.keep _ _ _ st2 fun b _ o e => by
    rw [h3]
    exact Heap.get?_push_of_some _ e
  have I4 := block_start I3 ok hN foot
  have pg := hg s3 H3 s3.heap.objs.size (cellsFrom (s3.heap.objs.size + 1) scope.names (cloFrom X.env.cells scope.names [])) fp
  have pt := ht s3 H3 s3.heap.objs.size (cellsFrom (s3.heap.objs.size + 1) scope.names (cloFrom X.env.cells scope.names [])) fp
  have pk := hk s3 H3 s3.heap.objs.size (cellsFrom (s3.heap.objs.size + 1) scope.names (cloFrom X.env.cells scope.names [])) fp
  have pe := he s3 H3 s3.heap.objs.size (cellsFrom (s3.heap.objs.size + 1) scope.names (cloFrom X.env.cells scope.names [])) fp
  show codeAny _ _ (.compStart (.DictComp kx vx [⟨tg, iter, ifs, 0⟩] scope pos) 0 (.ref it) (.ref D) (compEnvC scope (cellsFrom (s3.heap.objs.size + 1) scope.names (cloFrom X.env.cells scope.names [])) s3.heap.objs.size X.env)) _ { s3 with heap := pushCells (s3.heap.push { cls := .type "dict", data := .dict #[] }) scope.names }
  have bare : ∀ b ∈ fp, H3 b = none := fun b hb => (foot b hb).1.1
  generalize hce : compEnvC scope (cellsFrom (s3.heap.objs.size + 1) scope.names (cloFrom X.env.cells scope.names [])) s3.heap.objs.size X.env = ce at I4 pg pt pk pe ⊢
  have cL : ce.locals = s3.heap.objs.size := by
    subst hce
    rfl
  generalize hs4 : ({ s3 with heap := pushCells (s3.heap.push { cls := .type "dict", data := .dict #[] }) scope.names } : Shared) = s4 at I4 ⊢
  have st4 : tn 0 s4.heap := T.keep _ _ _ st3 fun b _ o e => by
    rw [← hs4]
    exact pushCells_keeps _ _ _ _ (Heap.get?_push_of_some _ e)
  -- in the block as well
  have stat : ∀ {σ' : L2.St} {H' : Hp} {s' : Shared}, Inv (X.blk s3 H3 scope ce fp) [] σ' H' s' → (∀ b ∈ fp, H' b = none) → ∀ b ∈ fp, FpOk (X.blk s3 H3 scope ce fp) [] H' b := fun {σ' H' s'} I' hn b hb =>
    ⟨hn b hb, (I'.ok.exf b hb).1, I'.ok.exfs b hb, .inl hb, fun x c e => (I'.ok.exf b hb).2 x c e, fun p hp => absurd (show p ∈ ([] : List (Addr × Obj)) ++ [] from hp) (by simp)⟩
  refine (fun (loop : codeAny (model X.prog X.w) X.A (.compLoop (.DictComp kx vx [⟨tg, iter, ifs, 0⟩] scope pos) 0 (.ref it) (.ref D) ce) _ s4) => codeAny_compStart_dict loop (T.self X.A 0 _ _ _ st4 loop)) ?_
  refine compLoop_anyD (fun n s' => ∃ i H', Inv (X.blk s3 H3 scope ce fp) [] (wipe σ (own.map (·.2))) H' s' ∧ tn i s'.heap ∧ (∀ b ∈ fp, H' b = none) ∧ W i n H') ?_ m0 ⟨0, H3, I4, st4, bare, w0⟩
  rintro n s5 ⟨i, H5, I5, st5, n5, w5⟩
  rcases turn i n H5 w5 with ⟨stop, fin⟩ | ⟨go, Nx, hNx, step⟩
  · refine thnF (T.done (X.blk s3 H3 scope ce fp) rfl rfl rfl hc i [] s5 _ H5 (fun _ _ => False) I5 (stat I5 n5) st5 stop) fun r s6 ⟨hr, I6⟩ => ?_
    subst hr
    have I7 : Inv X pins σ H5 s6 := I3.call' (ch := fp) I6.os I6.base I6.hok I6.bare fun b hb => ⟨(foot b hb).1.2.2.2.1, (foot b hb).1.2.1, (foot b hb).1.2.2.2.2.1, (foot b hb).1.2.2.2.2.2⟩
    have gone : H5 s3.heap.objs.size = none := by
      have z : H5 ce.locals = none := I6.free
      rw [cL] at z
      exact z
    obtain ⟨m, hn, _⟩ := I6.loc
    have hn : s6.heap.Ns ce.locals m := hn
    rw [cL] at hn
    exact hRR D s3.heap.objs.size s6 m H5 I7 fin hn (I3.fpOk (Nat.le_refl _) gone)
  · refine thnF (T.item (X.blk s3 H3 scope ce fp) rfl rfl rfl hc i [] s5 _ H5 (fun _ _ => False) I5 (stat I5 n5) st5 go) fun r s6 ⟨u, hr, h6⟩ => ?_
    subst hr
    refine thnF h6 fun _ s7 ⟨x, H7, I7, r7, y7, st7, n7⟩ => ?_
    have I7' := I7.pinned (stat I7 n7) (T.obj _ _ st7)
    refine thnF (pg.run _ s7 _ H7 x u _ I7' r7 (step x H7 y7)) fun _ s8 ⟨σ8, H8, I8, hw8, q8⟩ => ?_
    refine thnF (pt.run _ s8 σ8 H8 _ I8 q8) fun b s9 ⟨H9, I9, q9⟩ => ?_
    have next : ∀ {s' : Shared} {H' : Hp}, Inv (X.blk s3 H3 scope ce fp) ([] ++ pinsAt fp s7.heap) σ8 H' s' → Nx H' → ∃ m, m < n ∧ ∃ i H', Inv (X.blk s3 H3 scope ce fp) [] (wipe σ (own.map (·.2))) H' s' ∧ tn i s'.heap ∧ (∀ b ∈ fp, H' b = none) ∧ W i m H' := fun {s' H'} I' nx => by
      obtain ⟨m', hm, w'⟩ := hNx H' nx
      have pinned : ∀ b ∈ fp, ∀ o, s7.heap.get? b = some o → s'.heap.get? b = some o ∧ H' b = none := fun b hb o e => by
        have z := I'.pin (b, o) (List.mem_append_right _ (List.mem_append_right _ (mem_pinsAt hb e)))
        exact ⟨z.1, z.2.1⟩
      have len : (wipe σ (own.map (·.2))).length = σ8.length := by rw [← hw8, wipe_length]
      refine ⟨m', hm, i + 1, H', (I'.unpinned (pins := [])).weak len (fun j v e => ?_), T.keep _ _ _ st7 fun b hb o e => (pinned b hb o e).1, fun b hb => ?_, w'⟩
      · rw [← hw8] at e
        exact (wipe_some e).1
      · obtain ⟨o, e, _⟩ := T.obj _ _ st7 b hb
        exact (pinned b hb o e).2
    cases b with
    | false =>
      simp only [Bool.false_eq_true, if_false] at q9 ⊢
      exact next I9 q9
    | true =>
      simp only [if_true] at q9 ⊢
      refine thnF (pk.run _ s9 σ8 H9 _ I9 q9) fun u1 s10 ⟨y1, H10, I10, r10, q10⟩ => ?_
      refine thnF (pe.run _ s10 σ8 H10 _ I10 q10) fun u2 s11 ⟨y2, H11, I11, r11, La, z, ey, hD11, kk, vk, small, nx⟩ => ?_
      subst ey
      obtain rfl : u2 = Value.bool true := r11
      obtain ⟨D0, low, _⟩ := rd_at I11.hok hD11 kk
      obtain ⟨k1, k2⟩ := vkey_at I11.hok vk r10
      refine set_k (A := X.A) hu k1 k2 D0 small fun h' sb D' => ?_
      have len : (putR z La).length ≤ sizeLine := Nat.le_trans (putR_len z La) small
      have B := rd_bare D' low len
      obtain ⟨o', es', ep', ho', _⟩ := B.ex
      exact next (d_write I11 (by rw [hD11]; trivial) sb ⟨o', ho'⟩ (rd_new B)) nx
theorem pe_dcR {kx vx tg iter : Expr} {ifs : List Expr} {scope : Scope} {own : List (PySem.Str × Nat)} {pos : Pos} {wi : TI} {g : TG} {tt : TT} {tk tv : TE} (hc : X.calm = true) (hu : X.A.units < cLine) (hN : X.N.Nodup) (hi : PI X tg iter wi) (ok : BlkOk X.N X.env.scope scope own)
    (hg : ∀ (s : Shared) (H : Hp) (C : Addr) (cl : List (PySem.Str × Addr)) (fp : List Addr), PG (X.blk s H scope (compEnvC scope cl C X.env) fp) tg g) (ht : ∀ (s : Shared) (H : Hp) (C : Addr) (cl : List (PySem.Str × Addr)) (fp : List Addr), PTs (X.blk s H scope (compEnvC scope cl C X.env) fp) ifs tt)
    (hk : ∀ (s : Shared) (H : Hp) (C : Addr) (cl : List (PySem.Str × Addr)) (fp : List Addr), PE (X.blk s H scope (compEnvC scope cl C X.env) fp) kx tk)
    (he : ∀ (s : Shared) (H : Hp) (C : Addr) (cl : List (PySem.Str × Addr)) (fp : List Addr), PE (X.blk s H scope (compEnvC scope cl C X.env) fp) vx tv) (hs : ∀ x, foldedSetIterable iter X.env x = pure x := by intro _; rfl) :
    PE X (.DictComp kx vx [⟨tg, iter, ifs, 0⟩] scope pos) (tDcR X.prog X.w wi g tt tk tv (own.map (·.2))) := by
  refine ⟨fun pins s σ H Q I h => ?_⟩
  rw [arm_eval_DictComp]
  refine dcR_core hc hu hN I hi ok hg ht hk he hs h fun D C s' m H' I' q hn f => ⟨m, hn, fun g' sb => ?_⟩
  obtain ⟨f0, f1, f2, f3, f4, f5⟩ := f
  exact ⟨.ref D, H', I'.turned (t' := s'.toks) (fun b o hb e => (sb.2 b hb).trans e) f0 f1 f3 f4 f5, rfl, q⟩
/-- name = {..} on one line, the name a local -/
theorem ps_setDcR {i : Nat} {y : PySem.Str} {py : Pos} {kx vx tg iter : Expr} {ifs : List Expr} {scope : Scope} {own : List (PySem.Str × Nat)} {pos spos : Pos} {wi : TI} {g : TG} {tt : TT} {tk tv : TE} (hc : X.calm = true) (hu : X.A.units < cLine) (hN : X.N.Nodup) (hy : X.N[i]? = some y) (hyl : X.env.scope.names.lookup y = some .local)
    (hsw : swapsWith (.DictComp kx vx [⟨tg, iter, ifs, 0⟩] scope pos) (some (.Name y py)) spos.line X.env = pure true) (hi : PI X tg iter wi) (ok : BlkOk X.N X.env.scope scope own)
    (hg : ∀ (s : Shared) (H : Hp) (C : Addr) (cl : List (PySem.Str × Addr)) (fp : List Addr), PG (X.blk s H scope (compEnvC scope cl C X.env) fp) tg g) (ht : ∀ (s : Shared) (H : Hp) (C : Addr) (cl : List (PySem.Str × Addr)) (fp : List Addr), PTs (X.blk s H scope (compEnvC scope cl C X.env) fp) ifs tt)
    (hk : ∀ (s : Shared) (H : Hp) (C : Addr) (cl : List (PySem.Str × Addr)) (fp : List Addr), PE (X.blk s H scope (compEnvC scope cl C X.env) fp) kx tk)
    (he : ∀ (s : Shared) (H : Hp) (C : Addr) (cl : List (PySem.Str × Addr)) (fp : List Addr), PE (X.blk s H scope (compEnvC scope cl C X.env) fp) vx tv) (hs : ∀ x, foldedSetIterable iter X.env x = pure x := by intro _; rfl) :
    PS X (.Assign [.Name y py] (.DictComp kx vx [⟨tg, iter, ifs, 0⟩] scope pos) spos) (tAsg (tDcR X.prog X.w wi g tt tk tv (own.map (·.2))) (gName i)) := by
  refine ⟨fun pins s σ H D I h => ?_⟩
  rw [exec_Assign_Name_used _ _ _ _ hsw]
  apply wpAny_bind
  refine wpAny_standAt (wpAny_bind ?_)
  show wpAny _ X.A (do let _ ← comprehension (.DictComp kx vx [⟨tg, iter, ifs, 0⟩] scope pos) scope X.env (firstIterPos [⟨tg, iter, ifs, 0⟩] pos) newDict false (eval iter X.env) (some (assign (.Name y py) X.env))) _ _ s
  have h : tDcR X.prog X.w wi g tt tk tv (own.map (·.2)) σ H (fun x H1 => gName i x σ H1 D.nx) := h
  apply wpAny_bind
  refine thn (dcR_core (Qf := fun _ s' => SP X pins D .next s') hc hu hN I hi ok hg ht hk he hs h fun L C s' m H' I' q hn f => ?_) fun _ s' hq => wpAny_pure (wpAny_pure hq)
  show wpAny (model X.prog X.w) X.A (assign (.Name y py) X.env (.ref L)) _ _ _
  refine wpAny_assign_Name (store_ok2 (v := V.ref L) I' hN hy (.inl hyl) rfl (fun s2 I2 ⟨a, sb, ha⟩ => ?_) (.inr hyl))
  obtain ⟨f0, f1, f2, f3, f4, f5⟩ := f
  have apart : C ≠ a := ha.elim (fun z => z ▸ f1) fun z e => f4 y a z e.symm
  exact ⟨m, hn.sameBut sb apart, fun h3 sb3 => ⟨_, H', I2.turned (t' := s2.toks) (fun b o hb e => (sb3.2 b hb).trans e) f0 f1 f3 f4 f5, q⟩⟩
theorem sw_dict {kx vx : Expr} {gs : List Comprehension} {scope : Scope} {pos py : Pos} {y : PySem.Str} {l : Nat} {env : Env} (hk : env.scope.kind = .function) (hy : env.scope.names.lookup y = some .local) (hl : (py.line == pos.line) = true)
    (ha : (scope.names.any fun (n, k) => n == y && (k == .local || k == .cell)) = false) : swapsWith (.DictComp kx vx gs scope pos) (some (.Name y py)) l env = pure true := by
  have ky : env.kindOf y = some .local := hy
  have hb : env.blockKind = .function := by
    unfold Env.blockKind
    rw [hk]
    rfl
  unfold swapsWith
  simp only [hb, ky, ha, Expr.pos, hl]
  rfl
end
end UA

namespace L41
open PySem PySem.Spec PyProof.Rows L2 GR WX TX RZ UA
/-! ### the statements of a log by their positions; what an expression reads; whether it is too large -/
section
variable {P : Program} {w : World} {K : PySem.W.Frag} {mg : Str → Option Value} {base : Heap}
abbrev s_statements_of : Stmt := topS 14
abbrev N_sto : List Str := ["log", "position", "statement"]
theorem sc_statements_of : FnScope N_sto ["log"] (defScope s_statements_of) := ⟨rfl, rfl, rfl, by decide +kernel, rfl, by decide +kernel, by decide +kernel⟩
/-- positions and statements -/
abbrev StmR (K : PySem.W.Frag) (H : Hp) : List (Key × V) → List Ent → Prop := Paired fun a e => a.1 = .inl e.1 ∧ Dp K H a.2 e.2
theorem StmR.keep {K : PySem.W.Frag} {H H' : Hp} (k : KeepT H H') {a : List (Key × V)} {es : List Ent} (f : flatDs (es.map (·.2)) = true) (h : StmR K H a es) : StmR K H' a es := by
  induction h with
  | nil => exact .nil
  | cons h t ih =>
    rw [List.map_cons, flatDs, Bool.and_eq_true] at f
    exact .cons ⟨h.1, dp_keep k _ _ f.1 h.2⟩ (ih f.2)
theorem stm_keys {K : PySem.W.Frag} {H : Hp} {a : List (Key × V)} {es : List Ent} (h : StmR K H a es) : a.map (·.1) = es.map fun e => .inl e.1 := by
  induction h with
  | nil => rfl
  | cons h t ih => rw [List.map_cons, List.map_cons, h.1, ih]
theorem stm_snoc {K : PySem.W.Frag} {H : Hp} {x : Key × V} {e : Ent} (h : x.1 = .inl e.1 ∧ Dp K H x.2 e.2) {a : List (Key × V)} {es : List Ent} (t : StmR K H a es) : StmR K H (a ++ [x]) (es ++ [e]) := pair_snoc (F := fun (a : Key × V) (e : Ent) => a.1 = .inl e.1 ∧ Dp K H a.2 e.2) (a := x) (b := e) h t
def sp_sto (K : PySem.W.Frag) : Sp := fun vs H Q _ => ∃ (p : Addr) (ms : List Int) (es : List Ent), vs = [.ref p] ∧ LgD K H p ms es ∧ (es.map (·.1)).Nodup ∧ es.length ≤ 30 ∧ ∀ H' d kvs, Same H H' → H d = none → H' d = some (.dK kvs) → StmR K H' kvs es → Q (.ref d) H'
theorem ok_statements_of {f : Addr} {fd : FuncData} {k : Nat} (F : Fun K "statements_of" "statements_of" s_statements_of f fd) : FnOk P w K mg base CX0 (k + 1) f fd ["log"] (sp_sto K) := by
  have nd := sc_statements_of.nd
  refine F.ok sc_statements_of (fun vs H Q E h => ?_) (fun cdv A outer s H vs Q E hr h => ?_)
  · obtain ⟨p, ms, es, rfl, _⟩ := h
    rfl
  obtain ⟨p, ms, es, rfl, hL, hn, hes, q⟩ := h
  obtain ⟨mp, ep, rs, h1, h2, h3, h4⟩ := hL.parts
  have fe := flat_eds hL.fl
  have fl := hL.fl
  refine ⟨_, (pss_one (ps_ret (pe_dc (own := [("position", 1), ("statement", 2)]) (g := gTup K 2 (gCons (gName 1) (gCons (gName 2) gNil))) (tt := tYes) (tk := tVar 1) (tv := tVar 2) rfl nd (pi_tup (pe_ix ix_tup (pv 0) pe_int (fun _ _ => rfl))) (blkOk_by (N := N_sto) (sc := defScope s_statements_of) (by decide +kernel))
          (fun _ _ _ _ _ => (pg_tup rfl (pgs_cons (pg_name (i := 1) (x := "position") nd rfl (Or.inl rfl)) (pgs_cons (pg_name (i := 2) (x := "statement") nd rfl (Or.inl rfl)) pgs_nil))))
          (fun _ _ _ _ _ => pts_nil) (fun _ _ _ _ _ => (pv 1)) (fun _ _ _ _ _ => (pv 2))))), ?_⟩
  refine ⟨.ref p, rfl, p, _, 1, .ref ep, rfl, rfl, h1, at1, ep, rfl, ⟨_, h3⟩, fun d nd2 => ?_⟩
  have ktd : ∀ {H' : Hp}, (∀ b o, b ≠ d → H b = some o → H' b = some o) → KeepT H H' := fun {H'} kp2 => ⟨fun b xs e => kp2 b _ (ne_of_none e nd2) e, fun b o xs e => kp2 b _ (ne_of_none e nd2) e⟩
  refine dc_tup (xs := rs) (fun i H' => (∃ kvs, H' d = some (.dK kvs) ∧ StmR K H' kvs (es.take i)) ∧ ∀ b o, b ≠ d → H b = some o → H' b = some o) ?_ ?_ ?_ ?_
  · refine ⟨⟨[], upd_same, ?_⟩, fun b o nb e => by rw [upd_ne nb]; exact e⟩
    rw [List.take_zero]
    exact .nil
  · rintro i H' _ ⟨_, kp2⟩
    exact (ktd kp2).seqt h3
  · rintro i x H' hx ⟨⟨kvs, hd, hR⟩, kp2⟩
    have kt2 := ktd kp2
    obtain ⟨e, he, r, u, rfl, h6, h7⟩ := ent_at (dp_keepAll kt2 _ _ fe h4) hx
    have hi : i < es.length := (List.getElem?_eq_some_iff.mp he).1
    have lk : kvs.length = i := by
      have z := Paired.length hR
      rw [List.length_take] at z
      omega
    have hno : valV kvs (.inl e.1) = none := by
      refine valV_none ?_
      rw [stm_keys hR]
      intro hc
      obtain ⟨e', he', q1⟩ := List.mem_map.mp hc
      obtain ⟨j, hj⟩ := List.mem_iff_getElem?.mp he'
      rw [List.getElem?_take] at hj
      split at hj
      · rename_i hlt
        have a1 : (es.map (·.1))[j]? = some e'.1 := by rw [List.getElem?_map, hj]; rfl
        have a2 : (es.map (·.1))[i]? = some e.1 := by rw [List.getElem?_map, he]; rfl
        have q2 : e'.1 = e.1 := Sum.inl.inj q1
        rw [← q2] at a2
        have := (List.getElem?_inj (List.getElem?_eq_some_iff.mp a1).1 hn).mp (a1.trans a2.symm)
        omega
      · cases hj
    refine ⟨r, _, rfl, h6, rfl, _, _, rfl, _, _, rfl, rfl, rfl, yes_then ⟨.int e.1, rfl, u, rfl, kvs, .inl e.1, rfl, hd, small1000 (by omega), ?_⟩⟩
    rw [putK_new _ hno]
    have kd : KeepT H' (upd H' d (.dK (kvs ++ [(.inl e.1, u)]))) := KeepT.dk hd
    refine ⟨⟨kvs ++ [(.inl e.1, u)], upd_same, ?_⟩, fun b o nb q' => by rw [upd_ne nb]; exact kp2 b o nb q'⟩
    rw [take_next he]
    have fx := flatDs_at fl (show (es.map (·.2))[i]? = some e.2 by rw [List.getElem?_map, he]; rfl)
    refine stm_snoc ⟨rfl, dp_keep kd _ _ fx h7⟩ (StmR.keep kd ?_ hR)
    rw [List.map_take]
    exact flatDs_take i fl
  · rintro H2 ⟨⟨kvs, hd, hR⟩, kp2⟩
    have hl := dpAll_len h4
    rw [List.length_map] at hl
    rw [hl, List.take_length] at hR
    exact q H2 d kvs (fun b o e => kp2 b o (ne_of_none e nd2) e) nd2 hd hR
abbrev s_column_of : Stmt := topS 20
theorem sc_column_of : FnScope ["statement"] ["statement"] (defScope s_column_of) := ⟨rfl, rfl, rfl, by decide +kernel, rfl, by decide +kernel, by decide +kernel⟩
/-- a statement by what column_of sees: it writes (t, z), or nothing -/
def ColS (x : PyData) (c : Option Pr) : Prop := ∃ w r, x = .tuple (.str w :: r) ∧ ((∃ t z y u, (w = "put" ∨ w = "each") ∧ r = [.str t, y, .str z, u] ∧ c = some (t, z)) ∨ (w ≠ "put" ∧ w ≠ "each" ∧ c = none))
def sp_col (K : PySem.W.Frag) : Sp := fun vs H Q _ => ∃ (v : V) (x : PyData) (c : Option Pr), vs = [v] ∧ Dp K H v x ∧ ColS x c ∧ ∀ H' r, Same H H' → (match c with
  | some d => ∃ b, r = .ref b ∧ H' b = some (.tup [.str d.1, .str d.2])
  | none => r = .non) → Q r H'
theorem ok_column_of {f : Addr} {fd : FuncData} {k : Nat} (F : Fun K "column_of" "column_of" s_column_of f fd) : FnOk P w K mg base CX0 (k + 1) f fd ["statement"] (sp_col K) := by
  have nd := sc_column_of.nd
  refine F.ok sc_column_of (fun vs H Q E h => ?_) (fun cdv A outer s H vs Q E hr h => ?_)
  · obtain ⟨v, x, c, rfl, _⟩ := h
    rfl
  obtain ⟨v, x, c, rfl, hd, ⟨wd, r, rfl, hc⟩, q⟩ := h
  refine ⟨_, (pss_cons (ps_if (pt_cmpR op_in_seq (pe_ix ix_tup (pv 0) pe_int (fun _ _ => rfl)) (pe_tup (pa_cons pe_str (pa_cons pe_str pa_nil))) (by rfl))
      (pss_one (ps_ret (pe_tup (pa_cons (pe_ix ix_tup (pv 0) pe_int (fun _ _ => rfl)) (pa_cons (pe_ix ix_tup (pv 0) pe_int (fun _ _ => rfl)) pa_nil)))))
      pss_nil)
      (pss_one (ps_ret pe_non))), ?_⟩
  cases hd with
  | tup hS hA =>
  cases hA with
  | cons hw hA =>
  cases hw
  rename_i a vs
  refine ⟨.ref a, rfl, a, _, 0, .str wd, rfl, rfl, hS, at0, le2, fun p np => ?_⟩
  have s1 := same_upd (o := .tup [.str "put", .str "each"]) np
  have hp : SqT K (upd H p (.tup [.str "put", .str "each"])) p ((["put", "each"] : List Str).map V.str) := .inl (.inl upd_same)
  refine ⟨p, (["put", "each"] : List Str).map V.str, rfl, .inr hp, rfl, flat_strs _, _, rfl, ?_⟩
  rw [wanted_in]
  have hS1 := (KeepT.of s1).seqt hS
  rcases hc with ⟨t, z, y, u, hw, rfl, rfl⟩ | ⟨h1, h2, rfl⟩
  · have e1 : wd ∈ (["put", "each"] : List Str) := by rcases hw with rfl | rfl <;> decide
    rw [decide_eq_true e1]
    cases hA with
    | cons g1 hA =>
    cases g1
    cases hA with
    | cons g2 hA =>
    cases hA with
    | cons g3 hA =>
    cases g3
    refine iteT ⟨.ref a, rfl, a, _, 1, .str t, rfl, rfl, hS1, at1, .ref a, rfl, a, _, 3, .str z, rfl, rfl, hS1, at3, le2, fun b nb => ?_⟩
    exact q _ _ (s1.trans (same_upd nb)) ⟨b, rfl, upd_same⟩
  · have e1 : wd ∉ (["put", "each"] : List Str) := fun z => by
      simp only [List.mem_cons, List.not_mem_nil, or_false] at z
      exact z.elim h1 h2
    rw [decide_eq_false e1]
    exact iteF (q _ _ s1 rfl)
end
end L41

namespace L41
open PySem PySem.Spec PyProof.Rows L2 GR WX TX RZ UA
/-- any walk over a tuple: what a turn does, told by body -/
theorem walk_bodyT {K : PySem.W.Frag} {a : Addr} {xs : List V} {body : V → Hp → (Hp → Prop) → Prop} {H0 : Hp} {Qd : Hp → Prop} (Pv : Nat → Hp → Prop) (h0 : Pv 0 H0) (hl : ∀ i H, i ≤ xs.length → Pv i H → SqT K H a xs)
    (hs : ∀ i x H, xs[i]? = some x → Pv i H → body x H (Pv (i + 1))) (hd : ∀ H, Pv xs.length H → Qd H) :
    ∃ W : Nat → Nat → Hp → Prop, (∃ m, W 0 m H0) ∧ ∀ i m H, W i m H →
      ((Itt K a).stop i H ∧ Qd H) ∨ ((Itt K a).go i H ∧ ∃ Nx : Hp → Prop, (∀ H', Nx H' → ∃ m', m' < m ∧ W (i + 1) m' H') ∧ ∀ x H', (Itt K a).yld i H x H' → body x H' Nx) := by
  have w := walk_tup (K := K) (a := a) (xs := xs)
  refine ⟨fun i m H => m = xs.length - i ∧ i ≤ xs.length ∧ Pv i H, ⟨xs.length, rfl, Nat.zero_le _, h0⟩, ?_⟩
  rintro i m H ⟨rfl, hi, p⟩
  have q := hl i H hi p
  by_cases hlt : i < xs.length
  · refine .inr ⟨w.goes i H hlt q, Pv (i + 1), fun H' p' => ⟨xs.length - (i + 1), by omega, rfl, hlt, p'⟩, fun x H' y => ?_⟩
    obtain ⟨rfl, hx⟩ := w.yields i H x H' hlt q y
    exact hs i x _ hx p
  · obtain rfl : i = xs.length := by omega
    exact .inl ⟨w.stops H q, hd H p⟩
/-- the let that a part is -/
def letP : PyData → Option Int
  | .tuple [.str w, .int i] => if w = "let" then some i else none
  | _ => none
def letsP (l : List PyData) : List Int := l.filterMap letP
theorem Ex.let_of {zs : List Str} {n : Nat} {rest : List PyData} (h : Ex zs n (.tuple (.str "let" :: rest))) : ∃ i, rest = [.int i] := by
  generalize hx : PyData.tuple (.str "let" :: rest) = x at h
  cases h with
  | leaf n x h =>
    cases h <;> cases hx
    exact ⟨_, rfl⟩
  | cell n t v x h1 h2 h3 => cases hx
  | op n o x y h1 h2 h3 =>
    cases hx
    exact absurd h1 (by decide)
  | iff n x y z h1 h2 h3 => cases hx
  | agg n o t xs ys h1 h2 h3 h4 h5 =>
    cases hx
    simp only [aggs, List.mem_cons, List.not_mem_nil, or_false, Prod.mk.injEq] at h1
    rcases h1 with ⟨h, _⟩ | ⟨h, _⟩ | ⟨h, _⟩ | ⟨h, _⟩ <;> exact absurd h (by decide)
theorem letP_no {w : Str} {rest : List PyData} (h : w ≠ "let") : letP (.tuple (.str w :: rest)) = none := by
  unfold letP
  split
  · rename_i w' z e
    cases e
    rw [if_neg h]
  · rfl
theorem letsP_take {l : List PyData} {i : Nat} {x : PyData} (h : l[i]? = some x) : letsP (l.take (i + 1)) = letsP (l.take i) ++ (letP x).toList := by
  unfold letsP
  rw [take_snoc h, List.filterMap_append]
  cases e : letP x with
  | none => simp [e]
  | some z => simp [e]
/-- what the keys of the reads are -/
def Reads (n : Nat) (x : PyData) (k : RK) : Prop := (∃ p, k = .tp p ∧ p ∈ cols (lvls n [x])) ∨ ∃ i, k = .nm i ∧ i ∈ letsP (lvls n [x])
section
variable {P : Program} {w : World} {K : PySem.W.Frag} {mg : Str → Option Value} {base : Heap}
abbrev s_read_by : Stmt := topS 31
abbrev N_rb : List Str := ["expression", "found", "part", "column"]
theorem sc_read_by : FnScope N_rb ["expression"] (defScope s_read_by) := ⟨rfl, rfl, rfl, by decide +kernel, rfl, by decide +kernel, by decide +kernel⟩
def sp_read (P : Program) (w : World) (K : PySem.W.Frag) : Sp := fun vs H Q _ => ∃ (v : V) (x : PyData) (zs : List Str) (n : Nat), vs = [v] ∧ Dp K H v x ∧ Ex zs n x ∧ (flatP n x).length ≤ 200000 ∧ zs.length ≤ 7 ∧ ("in" : Str) ∈ zs ∧
  ∀ H' d La, Same H H' → H d = none → H' d = some (RdO P w d La) → KeysH H' La → (∀ k, k ∈ La.map (·.1) ↔ Reads n x k) → Q (.ref d) H'
theorem ok_read_by {f fc fa : Addr} {fd fdc fda : FuncData} {k : Nat} (F : Fun K "read_by" "read_by" s_read_by f fd) (Gc : FnOk P w K mg base CX0 k fc fdc ["expression"] (sp_columns_of K)) (gc : mg "columns_of" = some (.ref fc)) (Kc : PySem.W.keepIn K (.ref fc) = true) (bc : Binds K fdc ["expression"] [])
    (Ga : FnOk P w K mg base CX0 k fa fda ["expression"] (sp_all_parts K)) (ga : mg "all_parts" = some (.ref fa)) (Ka : PySem.W.keepIn K (.ref fa) = true) (ba : Binds K fda ["expression"] []) : FnOk P w K mg base CX0 (k + 1) f fd ["expression"] (sp_read P w K) := by
  have nd := sc_read_by.nd
  refine F.ok sc_read_by (fun vs H Q E h => ?_) (fun cdv A outer s H vs Q E hr h => ?_)
  · obtain ⟨v, x, zs, n, rfl, _⟩ := h
    rfl
  obtain ⟨v, x, zs, n, rfl, hd, he, hb, h7, hi, q⟩ := h
  have hu0 : (A.deeper (envOfC "read_by" (defScope s_read_by) s.heap.objs.size f cdv)).units < cLine := by
    have := hr.units
    omega
  have hu1 : (A.deeper (envOfC "read_by" (defScope s_read_by) s.heap.objs.size f cdv)).units + 1 < cLine := by
    have := hr.units
    omega
  refine ⟨_, (pss_cons (ps_setDcR (i := 1) (own := [("column", 3)]) (tk := tVar 3) (tv := tC (.bl true)) rfl hu0 nd rfl rfl (sw_dict rfl rfl rfl (by decide +kernel)) (pi_tup (pe_call Gc hr (by rfl) gc Kc bc .nil pass0 (pa_cons (pv 0) pa_nil))) (blkOk_by (N := N_rb) (sc := defScope s_read_by) (by decide +kernel)) (fun _ _ _ _ _ => (pg_name (i := 3) (x := "column") nd rfl (Or.inl rfl))) (fun _ _ _ _ _ => pts_nil) (fun _ _ _ _ _ => (pv 3)) (fun _ _ _ _ _ => pe_bl))
      (pss_cons (ps_for PassesOwn.never rfl (pi_list (pe_call Ga hr (by rfl) ga Ka ba .nil pass0 (pa_cons (pv 0) pa_nil))) (pg_name (i := 2) nd rfl (Or.inl rfl))
      (pss_one (ps_if (pt_cmpR op_eq (pe_ix ix_tup (pv 2) pe_int (fun _ _ => rfl)) pe_str (nomark _))
        (pss_one (ps_kput hu1 (pv 1) (pe_ix ix_tup (pv 2) pe_int (fun _ _ => rfl)) pe_bl (by rfl)))
        pss_nil)))
      (pss_one (ps_ret (pv 1))))), ?_⟩
  have hx1 : ∀ y, y ∈ [x] → Ex zs n y := fun y hy => by
    rw [List.mem_singleton.mp hy]
    exact he
  have hE := lvls_ex hx1
  have hll := lvls_len he
  refine ⟨v, rfl, v, x, zs, n, rfl, hd, he, hb, h7, hi, fun H1 p ys s1 np ⟨qs, hp, hq, hys⟩ up mem => ⟨p, rfl, ⟨_, .inl (.inl hp)⟩, fun D nD => ?_⟩⟩
  have l49 : qs.length ≤ 49 := by
    have h1 := nodup_le' (m := pairsOn zs) (l := ys) (up.imp fun {p q} a e => by rw [e, plt_irr] at a; cases a) fun z hz => cols_in hi hE z ((mem z).mp hz)
    rw [pairsOn_len, ← hys, List.length_map] at h1
    have h2 : zs.length * zs.length ≤ 7 * 7 := Nat.mul_le_mul h7 h7
    omega
  refine walk_bodyT (xs := qs.map fun q => V.ref q.1) (fun i H' => ∃ La : RL, H' D = some (RdO P w D La) ∧ KeysH H' La ∧ La.length ≤ i ∧ (∀ k, k ∈ La.map (·.1) ↔ ∃ p, k = RK.tp p ∧ p ∈ (qs.take i).map (·.2)) ∧ ∀ b o, b ≠ D → H1 b = some o → H' b = some o) ?_ ?_ ?_ ?_
  · refine ⟨[], upd_same, fun x hx => (nomatch hx), Nat.le_refl _, fun k => ?_, fun b o nb e => by rw [upd_ne nb]; exact e⟩
    rw [List.take_zero]
    exact ⟨fun h => (nomatch h), fun ⟨p, _, h⟩ => (nomatch h)⟩
  · rintro i H' _ ⟨La, hD, hk, hl, hm, kk⟩
    exact .inl (.inl (kk _ _ (ne_of_none hp nD) hp))
  · rintro i u H' hu ⟨La, hD, hk, hl, hm, kk⟩
    rw [List.getElem?_map] at hu
    obtain ⟨z, hz, rfl⟩ := Option.map_eq_some_iff.mp hu
    have hi' : i < qs.length := (List.getElem?_eq_some_iff.mp hz).1
    have hzt := hq z (List.mem_of_getElem? hz)
    have hzt' := kk _ _ (ne_of_none hzt nD) hzt
    have vk : VKey H' (RK.tp z.2, z.1) (.ref z.1) := ⟨rfl, hzt'⟩
    refine ⟨rfl, yes_then ⟨.ref z.1, rfl, ?_⟩⟩
    refine ⟨La, (RK.tp z.2, z.1), rfl, hD, hk, vk, small1000 (by omega), putR (RK.tp z.2, z.1) La, upd_same, ?_, ?_, fun k => ?_, fun b o nb e => by rw [upd_ne nb]; exact kk b o nb e⟩
    · refine (hk.put vk).keep fun b xs e => ?_
      rw [upd_ne (fun z => by rw [z, hD] at e; cases e)]
      exact e
    · exact Nat.le_trans (putR_len _ _) (by omega)
    · rw [mem_putR, hm k, take_next hz, List.map_append]
      simp only [List.mem_append, List.map_cons, List.map_nil, List.mem_singleton]
      constructor
      · rintro (⟨p, e, h⟩ | e)
        · exact ⟨p, e, .inl h⟩
        · exact ⟨z.2, e, .inr rfl⟩
      · rintro ⟨p, e, h | h⟩
        · exact .inl ⟨p, e, h⟩
        · exact .inr (by rw [e, h])
  rintro H2 ⟨La, hD, hk, hl, hm, kk⟩
  rw [List.length_map] at hl hm
  rw [List.take_length, hys] at hm
  have s12 : Same H1 H2 := fun b o e => kk b o (ne_of_none e nD) e
  have s02 := s1.trans s12
  have nD0 := s1.free nD
  have hd2 := he.kept (KeepT.of s02) hd
  refine ⟨v, rfl, v, x, zs, n, rfl, hd2, he, hb, fun H3 p3 us s3 np3 hp3 hu3 => ⟨p3, rfl, ⟨us, .inl (.inl hp3)⟩, ?_⟩⟩
  have hD3 := s3 _ _ hD
  have lu := dpAll_len hu3
  have hne3 : p3 ≠ D := fun z => by rw [z, hD3] at hp3; cases hp3
  refine for_list (xs := us) (fun i σ H' => ∃ (y : Option V) (La : RL), σ = [some v, some (.ref D), y, none] ∧ H' D = some (RdO P w D La) ∧ KeysH H' La ∧ La.length ≤ 49 + i ∧ (∀ k, k ∈ La.map (·.1) ↔ (∃ p, k = RK.tp p ∧ p ∈ cols (lvls n [x])) ∨ ∃ j, k = RK.nm j ∧ j ∈ letsP ((lvls n [x]).take i)) ∧ ∀ b o, b ≠ D → H3 b = some o → H' b = some o) ?_ ?_ ?_ ?_
  · refine ⟨none, La, rfl, hD3, hk.keep fun b xs e => s3 _ _ e, by omega, fun k => ?_, fun b o _ e => e⟩
    rw [hm k, List.take_zero]
    constructor
    · rintro ⟨p, e, h⟩
      exact .inl ⟨p, e, (mem p).mp h⟩
    · rintro (⟨p, e, h⟩ | ⟨j, _, h⟩)
      · exact ⟨p, e, (mem p).mpr h⟩
      · exact nomatch h
  · rintro i σ H' _ ⟨y, La, rfl, hD', hk', hl', hm', kk'⟩
    exact .inl (.inl (kk' _ _ hne3 hp3))
  · rintro i u σ H' hu ⟨y, La, rfl, hD', hk', hl', hm', kk'⟩
    obtain ⟨d, hdi, hud⟩ := dpAll_at hu3 hu
    have ex := hE d (List.mem_of_getElem? hdi)
    have hi' : i < us.length := (List.getElem?_eq_some_iff.mp hu).1
    have kt : KeepT H3 H' := ⟨fun b us e => kk' _ _ (ne_of e hD3 (fun z => by cases z)) e, fun b o us e => kk' _ _ (ne_of e hD3 (fun z => by cases z)) e⟩
    have hud2 := ex.kept kt hud
    have ct := letsP_take hdi
    obtain ⟨wd, fs, rest, rfl, _, _⟩ := ex.form
    cases hud2 with
    | tup hS hA =>
    cases hA with
    | @cons vw vs0 dw ds0 hw hA =>
    cases hw
    rename_i a
    refine ⟨.ref a, rfl, a, _, 0, .str wd, rfl, rfl, hS, at0, rfl, _, rfl, ite2 (fun e1 => ?_) (fun e1 => ?_)⟩
    · have e1 : wd = "let" := by simpa using e1
      subst e1
      obtain ⟨j, rfl⟩ := ex.let_of
      cases hA with
      | cons g1 hA =>
      cases hA
      cases g1
      have vk : VKey H' (RK.nm j, 0) (.int j) := rfl
      refine ⟨.ref D, rfl, .ref a, rfl, a, _, 1, .int j, rfl, rfl, hS, at1, D, La, (RK.nm j, 0), rfl, rfl, hD', hk', vk, by rw [sizeLine_eq]; omega, _, putR (RK.nm j, 0) La, rfl, upd_same, ?_, Nat.le_trans (putR_len _ _) (by omega), fun k => ?_, fun b o nb e => by rw [upd_ne nb]; exact kk' b o nb e⟩
      · refine (hk'.put vk).keep fun b xs e => ?_
        rw [upd_ne (fun z => by rw [z, hD'] at e; cases e)]
        exact e
      · rw [mem_putR, hm' k, ct]
        have el : letP (.tuple [.str "let", .int j]) = some j := by
          unfold letP
          simp
        rw [el]
        simp only [List.mem_append, Option.toList_some, List.mem_singleton]
        constructor
        · rintro ((h | ⟨i', e, h⟩) | e)
          · exact .inl h
          · exact .inr ⟨i', e, .inl h⟩
          · exact .inr ⟨j, e, .inr rfl⟩
        · rintro (h | ⟨i', e, h | h⟩)
          · exact .inl (.inl h)
          · exact .inl (.inr ⟨i', e, h⟩)
          · exact .inr (by rw [e, h])
    · have e1 : wd ≠ "let" := fun z => e1 (by simpa using z)
      refine ⟨_, La, rfl, hD', hk', by omega, fun k => ?_, kk'⟩
      rw [hm' k, ct, letP_no e1]
      simp
  · rintro σ H4 ⟨y, La, rfl, hD', hk', hl', hm', kk'⟩
    rw [lu, List.take_length] at hm'
    refine ⟨.ref D, rfl, q H4 D La (fun b o e => kk' b o (ne_of_none e nD0) (s3 _ _ (s02 _ _ e))) nD0 hD' hk' hm'⟩
end
end L41

namespace L41
open PySem PySem.Spec PyProof.Rows L2 GR WX TX RZ UA NdefX CLo LamX
section
variable {P : Program} {w : World} {K : PySem.W.Frag} {mg : Str → Option Value} {base : Heap}
abbrev s_is_too_large : Stmt := topS 32
abbrev N_tl : List Str := ["expression", "many", "depth", "level"]
theorem sc_is_too_large : FnScope N_tl ["expression"] (defScope s_is_too_large) := ⟨rfl, rfl, rfl, by decide +kernel, rfl, by decide +kernel, by decide +kernel⟩
def sp_tl (K : PySem.W.Frag) : Sp := fun vs H Q _ => ∃ (v : V) (x : PyData) (zs : List Str) (n : Nat), vs = [v] ∧ Dp K H v x ∧ Ex zs n x ∧ (flatP n x).length ≤ 2000 ∧ deepN n [x] ≤ 100 ∧ ∀ H', Same H H' → Q (.bl false) H'
theorem ok_is_too_large {f fc : Addr} {fd fdc : FuncData} {k : Nat} (F : Fun K "is_too_large" "is_too_large" s_is_too_large f fd) (Gc : FnOk P w K mg base CX0 k fc fdc ["expressions"] (sp_one_deeper K)) (gc : mg "one_deeper" = some (.ref fc)) (Kc : PySem.W.keepIn K (.ref fc) = true) (bc : Binds K fdc ["expressions"] []) (mlen : mg "len" = none)
    {t1 t2 : Tok} (mMOST : mg "MOST_PARTS" = some (.int 2000 t1)) (mDEEP : mg "DEEPEST" = some (.int 100 t2)) : FnOk P w K mg base CX0 (k + 1) f fd ["expression"] (sp_tl K) := by
  have nd := sc_is_too_large.nd
  refine F.ok sc_is_too_large (fun vs H Q E h => ?_) (fun cdv A outer s H vs Q E hr h => ?_)
  · obtain ⟨v, x, zs, n, rfl, _⟩ := h
    rfl
  obtain ⟨v, x, zs, n, rfl, hd, he, hb, hdp, q⟩ := h
  refine ⟨_, (pss_cons (ps_set (i := 1) nd rfl (.inl rfl) pe_int)
      (pss_cons (ps_set (i := 2) nd rfl (.inl rfl) pe_int)
      (pss_cons (ps_set (i := 3) nd rfl (.inl rfl) (pe_lst (pa_cons (pv 0) pa_nil)))
      (pss_cons (ps_while PassesOwn.never (pt_truth (pv 3) (fun _ => rfl))
      (pss_cons (ps_aug (i := 1) nd rfl (.inl rfl) (pe_callB call_len_seq (by rfl) mlen PySem.boot_len (pa_cons (pv 3) pa_nil)) ip_add)
        (pss_cons (ps_aug (i := 2) nd rfl (.inl rfl) pe_int ip_add)
        (pss_cons (ps_if (PW.pt (pw_or (pt_cmpR op_gt (pv 1) (pe_glob rfl mMOST (v := .int 2000) ⟨_, rfl⟩) (nomark _)) (pw_or1 (pt_cmpR op_gt (pv 2) (pe_glob rfl mDEEP (v := .int 100) ⟨_, rfl⟩) (nomark _)))))
        (pss_one (ps_ret pe_bl))
        pss_nil)
        (pss_one (ps_set (i := 3) nd rfl (.inl rfl) (pe_call Gc hr (by rfl) gc Kc bc .nil pass0 (pa_cons (pv 3) pa_nil))))))))
      (pss_one (ps_ret pe_bl)))))), ?_⟩
  refine ⟨v, rfl, small_le (show 1 ≤ 1000 by decide), fun lv nlv => ?_⟩
  have sl := same_upd (o := .lst [v]) nlv
  have hll : (lvls n [x]).length = (flatP n x).length := by
    have := (lvls_perm n [x]).length_eq
    rw [List.flatMap_cons, List.flatMap_nil, List.append_nil] at this
    exact this
  refine ⟨fun m σ H' => ∃ (i j : Nat) (lv : Addr) (us : List V) (xs : List PyData), σ = [some v, some (.int (j : Int)), some (.int (i : Int)), some (.ref lv)] ∧ H' lv = some (.lst us) ∧ DpAll K H' us xs ∧ (∀ y, y ∈ xs → Ex zs m y) ∧ j + (lvls m xs).length ≤ 2000 ∧ i + deepN m xs ≤ 100 ∧ Same H H', ⟨n, ?_⟩, ?_⟩
  · refine ⟨0, 0, lv, [v], [x], rfl, upd_same, .cons (he.kept (KeepT.of sl) hd) .nil, ?_, by omega, by omega, sl⟩
    intro y hy
    rw [List.mem_singleton.mp hy]
    exact he
  · rintro m σ H' ⟨i, j, lv, us, xs, rfl, hlv, hX, hE, hb2, hi, kk⟩
    have lX := dpAll_len hX
    refine ⟨.ref lv, rfl, !us.isEmpty, .inl ⟨us, .inl (.inl hlv), rfl⟩, ?_⟩
    cases us with
    | nil => exact iteF (q H' kk)
    | cons u0 ur =>
      have hx : xs ≠ [] := by
        intro z
        rw [z] at lX
        cases lX
      obtain ⟨x0, hx0⟩ := List.exists_mem_of_ne_nil xs hx
      obtain ⟨m', rfl⟩ : ∃ m', m = m' + 1 := by
        cases m with
        | zero => cases hE x0 hx0
        | succ m' => exact ⟨m', rfl⟩
      have hl : (lvls (m' + 1) xs).length = xs.length + (lvls m' (down xs)).length := by
        rw [lvls, List.length_append]
      have hd1 : deepN (m' + 1) xs = 1 + deepN m' (down xs) := by
        rw [deepN, if_neg]
        cases xs with
        | nil => exact absurd rfl hx
        | cons y ys => exact Bool.false_ne_true
      refine iteT ⟨fun σ' H'' => ∃ (i j : Nat) (lv : Addr) (us : List V) (xs : List PyData), σ' = [some v, some (.int (j : Int)), some (.int (i : Int)), some (.ref lv)] ∧ H'' lv = some (.lst us) ∧ DpAll K H'' us xs ∧ (∀ y, y ∈ xs → Ex zs m' y) ∧ j + (lvls m' xs).length ≤ 2000 ∧ i + deepN m' xs ≤ 100 ∧ Same H H'',
        fun σ' H'' z => ⟨m', Nat.lt_succ_self m', z⟩, ?_⟩
      refine ⟨.int (j : Int), rfl, .ref lv, rfl, lv, u0 :: ur, rfl, .inl (.inl (.inl hlv)), (j : Int), ((u0 :: ur).length : Int), rfl, rfl, .int (i : Int), rfl, (i : Int), 1, rfl, rfl, ?_⟩
      have e1 : (j : Int) + ((u0 :: ur).length : Int) = ((j + xs.length : Nat) : Int) := by
        rw [lX]
        rfl
      refine ⟨_, rfl, _, 2000, rfl, rfl, _, rfl, ite2 (fun e => ?_) (fun _ => ⟨_, rfl, _, 100, rfl, rfl, _, rfl, ite2 (fun e => ?_) (fun _ => ?_)⟩)⟩
      · have z : (j : Int) + ((u0 :: ur).length : Int) > 2000 := of_decide_eq_true e
        rw [e1] at z
        omega
      · have z : (i : Int) + 1 > 100 := of_decide_eq_true e
        omega
      · refine ⟨.ref lv, rfl, lv, u0 :: ur, xs, zs, m', rfl, .inl (.inl hlv), hX, hE, by omega, fun H2 p us' s2 np hp hu' => ?_⟩
        exact ⟨i + 1, j + xs.length, p, us', down xs, congrArg (fun z => [some v, some (V.int z), some (V.int ((i : Int) + 1)), some (V.ref p)]) e1, hp, hu', down_ex hE, by omega, by omega, kk.trans s2⟩
abbrev s_slot_led_to : Stmt := topS 34
theorem sc_slot_led_to : FnScope ["log", "position", "statement", "word"] ["log", "position", "statement", "word"] (defScope s_slot_led_to) := ⟨rfl, rfl, rfl, by decide +kernel, rfl, by decide +kernel, by decide +kernel⟩
def sp_slt (K : PySem.W.Frag) (T : List NTab) : Sp := fun vs H Q _ => ∃ (p : Addr) (v : V) (n lo : Int) (word : Str) (ms : List Int) (es : List Ent) (xs : List PyData) (y : PyData) (zs : List Str) (m : Nat), vs = [.ref p, .int n, v, .str word] ∧ LgD K H p ms es ∧ LowM ms n lo ∧ ms.length ≤ 6 ∧ es.length ≤ 30 ∧ Dp K H v (.tuple xs) ∧ flatDs xs = true ∧ SlotOk word xs y ∧ Ex zs m y ∧ NOks zs ∧ (flatP m y).length ≤ 200000 ∧ TabsN T H ∧
  ∀ H' v', ExtN H H' → TabsN T H' → Dp K H' v' (varW (lzOf lo n es) m y) → Q v' H'
theorem ok_slot_led_to {T : List NTab} {f fl fv : Addr} {fd fdl fdv : FuncData} {k : Nat} (F : Fun K "slot_led_to" "slot_led_to" s_slot_led_to f fd) (Gl : FnOk P w K mg base CX0 k fl fdl ["log", "expression", "position"] (sp_wlets K T)) (gl : mg "with_lets" = some (.ref fl)) (Kl : PySem.W.keepIn K (.ref fl) = true) (bl : Binds K fdl ["log", "expression", "position"] [])
    (Gv : FnOk P w K mg base CX0 k fv fdv ["statement", "word"] (sp_se K)) (gv : mg "slot_expression" = some (.ref fv)) (Kv : PySem.W.keepIn K (.ref fv) = true) (bv : Binds K fdv ["statement", "word"] []) : FnOk P w K mg base CX0 (k + 1) f fd ["log", "position", "statement", "word"] (sp_slt K T) := by
  have nd := sc_slot_led_to.nd
  refine F.ok sc_slot_led_to (fun vs H Q E h => ?_) (fun cdv A outer s H vs Q E hr h => ?_)
  · obtain ⟨p, v, n, lo, word, ms, es, xs, y, zs, m, rfl, _⟩ := h
    rfl
  obtain ⟨p, v, n, lo, word, ms, es, xs, y, zs, m, rfl, hL, hlo, hms, hes, hd, hf, hs, he, hzs, hb, hT, q⟩ := h
  refine ⟨_, (pss_one (ps_ret (pe_call Gl hr (by rfl) gl Kl bl .nil pass0 (pa_cons (pv 0) (pa_cons (pe_call Gv hr (by rfl) gv Kv bv .nil pass0 (pa_cons (pv 2) (pa_cons (pv 3) pa_nil))) (pa_cons (pv 1) pa_nil)))))), ?_⟩
  refine ⟨.ref p, rfl, v, rfl, .str word, rfl, v, word, xs, y, rfl, hd, hf, hs, fun H1 v1 s1 hv1 => ?_⟩
  refine ⟨.int n, rfl, p, v1, n, lo, ms, es, y, zs, m, rfl, hL.keep (KeepT.of s1), hlo, hms, hes, hv1, he, hzs, hb, fun p hp => (hT p hp).ext s1, fun H2 v2 x2 hT2 hv2 => ?_⟩
  exact q H2 v2 ((ExtN.of s1).trans x2) hT2 hv2
end
end L41

set_option maxHeartbeats 1000000
namespace L41
open PySem PySem.Spec PyProof.Rows L2 GR WX TX RZ UA NdefX CLo LamX
/-! ### what can be compared -/
theorem lay_all : ∀ {l : List PyData}, (∀ x, x ∈ l → x.canLay0 = true) → PyData.canLayAll0 l = true
  | [], _ => by simp only [PyData.canLayAll0]
  | x :: l, h => by
    rw [PyData.canLayAll0, h x List.mem_cons_self, lay_all fun y hy => h y (List.mem_cons_of_mem _ hy)]
    rfl
theorem ok_words : ∀ w, w ∈ (["int", "let", "key", "var", "cell", "if", "+", "-", "*", "<", "=", "at", "count", "sum", "most", "first", "in"] : List Str) → PyData.strOk w = true := by decide +kernel
theorem lay_of {zs : List Str} (hz : ∀ z, z ∈ zs → PyData.strOk z = true) : ∀ {n : Nat} {x : PyData}, Ex zs n x → x.canLay0 = true := by
  intro n x h
  induction h with
  | leaf n x h =>
    cases h with
    | int i _ _ => simp only [PyData.canLay0, PyData.canLayAll0, Bool.and_true, ok_words "int" (by decide)]
    | let_ i _ _ => simp only [PyData.canLay0, PyData.canLayAll0, Bool.and_true, ok_words "let" (by decide)]
    | key => simp only [PyData.canLay0, PyData.canLayAll0, Bool.and_true, ok_words "key" (by decide)]
    | var z h => simp only [PyData.canLay0, PyData.canLayAll0, Bool.and_true, hz z h, ok_words "var" (by decide)]
  | cell n t v x h1 h2 h3 ih => simp only [PyData.canLay0, PyData.canLayAll0, Bool.and_true, hz t h1, hz v h2, ih, ok_words "cell" (by decide)]
  | op n o x y h1 h2 h3 ih1 ih2 =>
    have : PyData.strOk o = true := by
      simp only [opws, List.mem_cons, List.not_mem_nil, or_false] at h1
      rcases h1 with rfl | rfl | rfl | rfl | rfl | rfl <;> exact ok_words _ (by decide)
    simp only [PyData.canLay0, PyData.canLayAll0, Bool.and_true, this, ih1, ih2]
  | iff n x y z h1 h2 h3 ih1 ih2 ih3 => simp only [PyData.canLay0, PyData.canLayAll0, Bool.and_true, ih1, ih2, ih3, ok_words "if" (by decide)]
  | agg n o t xs ys h1 h2 h3 h4 h5 ih1 ih2 =>
    have ho : PyData.strOk o = true := by
      simp only [aggs, List.mem_cons, List.not_mem_nil, or_false, Prod.mk.injEq] at h1
      rcases h1 with ⟨rfl, _⟩ | ⟨rfl, _⟩ | ⟨rfl, _⟩ | ⟨rfl, _⟩ <;> exact ok_words _ (by decide)
    simp only [PyData.canLay0, PyData.canLayAll0, Bool.and_true, ho, hz t h2, lay_all ih1, lay_all ih2]

section
variable {X : L2.Cx}
/-- == over data, the second one shallow -/
def rEqM (K : PySem.W.Frag) : R2 := fun x y H Q => ∃ d e, Dp K H x d ∧ Dp K H y e ∧ d.canLay0 = true ∧ e.canLay0 = true ∧ e.depth ≤ 64 ∧ Q (.bl (PyData.eqv d e)) H
theorem op_eqM (hu : X.A.units + 64 < cLine) : OpR X (compareOp .Eq) (rEqM X.K) := by
  intro pins s σ H x y v u Q I rx ry h
  obtain ⟨d, e, hd, he, sd, se, dp, q⟩ := h
  obtain ⟨as, r1⟩ := Dp.reads I d x v hd rx
  obtain ⟨bs, r2⟩ := Dp.reads I e y u he ry
  have hm : min d.depth e.depth ≤ e.depth := Nat.min_le_right _ _
  exact SeqAt.compareEq_reads r1 r2 sd se (by omega) ⟨.bl _, H, I, rfl, q⟩
end
/-! ### forms filled again -/
theorem r_ex {W : List Str} {fs : List Str} {xs ds qs : List PyData} : refill W ("extra" :: fs) (.tuple xs :: ds) qs = .tuple (qs.take xs.length) :: refill W fs ds (qs.drop xs.length) := by
  have e : takes W "extra" (.tuple xs) = xs.length := by
    unfold takes pick1
    rw [if_pos rfl]
    rfl
  rw [refill, e, refill1, if_pos rfl]
  rfl
theorem r_all : ∀ {fs : List Str} {ds qs : List PyData}, (∀ f, f ∈ fs → f ≠ "extra" ∧ f ∈ W2) → fs.length = ds.length → qs.length = ds.length → refill W2 fs ds qs = qs
  | [], [], [], _, _, _ => r_nil
  | f :: fs, d :: ds, q :: qs, h, h1, h2 => by
    obtain ⟨a, b⟩ := h f List.mem_cons_self
    rw [r_yes a b, r_all (fun g hg => h g (List.mem_cons_of_mem _ hg)) (by simpa using h1) (by simpa using h2)]
  | [], _ :: _, _, _, h1, _ => by simp at h1
  | _ :: _, [], _, _, h1, _ => by simp at h1
  | _, [], _ :: _, _, _, h2 => by simp at h2
  | _, _ :: _, [], _, _, h2 => by simp at h2
theorem agg_fields {o : Str} {k : Nat} (h : (o, k) ∈ aggs) : ∃ fs, ((o, "name" :: "extra" :: fs) : Str × List Str) ∈ table ∧ fs.length = k ∧ ∀ f, f ∈ fs → f ≠ "extra" ∧ f ∈ W2 := by
  simp only [aggs, List.mem_cons, List.not_mem_nil, or_false, Prod.mk.injEq] at h
  rcases h with ⟨rfl, rfl⟩ | ⟨rfl, rfl⟩ | ⟨rfl, rfl⟩ | ⟨rfl, rfl⟩
  · exact ⟨["bound", "bound"], by decide, rfl, by decide⟩
  · exact ⟨["bound", "bound", "bound"], by decide, rfl, by decide⟩
  · exact ⟨["bound", "bound", "bound", "free"], by decide, rfl, by decide⟩
  · exact ⟨["bound", "bound", "free"], by decide, rfl, by decide⟩
theorem fill_cell {t v : Str} {x q : PyData} : refillX W2 (.tuple [.str "cell", .str t, x, .str v]) [q] = .tuple [.str "cell", .str t, q, .str v] := by
  show PyData.tuple (.str "cell" :: refill W2 (fieldsOf "cell") _ _) = _
  rw [fo (w := "cell") (fs := ["name", "free", "name"]) (by decide), r_no (by decide) (by decide), r_yes (by decide) (by decide), r_no (by decide) (by decide), r_nil]
theorem fill_op {o : Str} {x y p q : PyData} (h : o ∈ opws) : refillX W2 (.tuple [.str o, x, y]) [p, q] = .tuple [.str o, p, q] := by
  have hs : ∀ o, o ∈ opws → ∃ fs, ((o, fs) : Str × List Str) ∈ table ∧ fs.length = 2 ∧ ∀ f, f ∈ fs → f ≠ "extra" ∧ f ∈ W2 := by
    intro o h
    simp only [opws, List.mem_cons, List.not_mem_nil, or_false] at h
    rcases h with rfl | rfl | rfl | rfl | rfl | rfl
    · exact ⟨["free", "free"], by decide, rfl, by decide⟩
    · exact ⟨["free", "free"], by decide, rfl, by decide⟩
    · exact ⟨["free", "free"], by decide, rfl, by decide⟩
    · exact ⟨["free", "free"], by decide, rfl, by decide⟩
    · exact ⟨["free", "free"], by decide, rfl, by decide⟩
    · exact ⟨["free", "bound"], by decide, rfl, by decide⟩
  obtain ⟨fs, h1, h2, h3⟩ := hs o h
  show PyData.tuple (.str o :: refill W2 (fieldsOf o) _ _) = _
  rw [fo h1, r_all (ds := [x, y]) (qs := [p, q]) h3 h2 rfl]
theorem fill_if {x y z p q r : PyData} : refillX W2 (.tuple [.str "if", x, y, z]) [p, q, r] = .tuple [.str "if", p, q, r] := by
  show PyData.tuple (.str "if" :: refill W2 (fieldsOf "if") _ _) = _
  rw [fo (w := "if") (fs := ["free", "free", "free"]) (by decide), r_all (fs := ["free", "free", "free"]) (ds := [x, y, z]) (qs := [p, q, r]) (by decide) rfl rfl]
theorem fill_agg {o t : Str} {xs ys : List PyData} (h : (o, ys.length) ∈ aggs) {as bs : List PyData} (ha : as.length = xs.length) (hb : bs.length = ys.length) : refillX W2 (.tuple (.str o :: .str t :: .tuple xs :: ys)) (as ++ bs) = .tuple (.str o :: .str t :: .tuple as :: bs) := by
  obtain ⟨fs, h1, h2, h3⟩ := agg_fields h
  show PyData.tuple (.str o :: refill W2 (fieldsOf o) _ _) = _
  rw [fo h1, r_no (by decide) (by decide), r_ex, ← ha, List.take_left, List.drop_left, r_all h3 h2 hb]
/-! ### a let led over -/
def fL (q : Int) (o : PyData) (y : PyData) : Option PyData := if PyData.eqv y (letD q) = true then some o else none
abbrev s_led_over_let : Stmt := topS 35
abbrev N_lol : List Str := ["expression", "position", "other", "made"]
theorem sc_led_over_let : FnScope N_lol ["expression", "position", "other"] (defScope s_led_over_let) := ⟨rfl, rfl, rfl, by decide +kernel, rfl, by decide +kernel, by decide +kernel⟩
abbrev st_mL : Stmt := (defBody s_led_over_let).getD 0 (.Pass ⟨0, 0, 0, 0⟩)
abbrev N_mL : List Str := ["part", "parts", "other", "position"]
abbrev fr_mL : List Str := ["other", "position"]
theorem ns_mL : NScope N_mL ["part", "parts"] fr_mL (C8.fnScope st_mL) := nscope_by (by decide +kernel)
def CapL (K : PySem.W.Frag) (q : Int) (o : PyData) (ws : List (Option V)) (H : Hp) : Prop := ∃ vo : V, ws = [some vo, some (.int q)] ∧ Dp K H vo o
theorem mkOkL {K : PySem.W.Frag} {q : Int} {o : PyData} (ho : flatD o = true) : MkOk W2 (mkG W2 (fL q o)) (CapL K q o) := by
  refine ⟨fun _ h => h, fun zs n y qs h hq => mkG_flat (fun y o' _ e => ?_) zs n y qs h hq, fun ws H H' s h => ?_⟩
  · unfold fL at e
    split at e
    · cases e
      exact ho
    · cases e
  · obtain ⟨vo, rfl, h1⟩ := h
    exact ⟨vo, rfl, dp_keep (KeepT.of s) _ _ ho h1⟩
section
variable {P : Program} {w : World} {K : PySem.W.Frag} {mg : Str → Option Value} {base : Heap}
theorem lay_let (q : Int) : (letD q).canLay0 = true := by
  unfold letD
  simp only [PyData.canLay0, PyData.canLayAll0, Bool.and_true, ok_words "let" (by decide)]
theorem depth_let (q : Int) : (letD q).depth ≤ 64 := by
  unfold letD
  simp only [PyData.depth, PyData.depthAll]
  omega
theorem sql_same {H H' : Hp} {a : Addr} {xs : List V} (e : Same H H') (h : SqL K H a xs) : SqL K H' a xs := by
  rcases h with (h | ⟨o, h⟩) | h
  · exact .inl (.inl (e _ _ h))
  · exact .inl (.inr ⟨o, e _ _ h⟩)
  · exact .inr h
/-- with_contained_of(part, ALL_PARTS, parts) if parts else part -/
theorem else_run {H H0 : Hp} {v : V} {p aP : Addr} {y : PyData} {zs : List Str} {n : Nat} {qs : List PyData} {ups : List V} {Q : VK} {σ : L2.St} (h0 : σ[0]? = some (some v)) (h1 : σ[1]? = some (some (.ref p))) (hd : Dp K H v y) (he : Ex zs n y) (hP : SqL K H p ups) (hPA : DpAll K H ups qs) (hPF : flatDs qs = true) (hlen : qs.length = (kidsW W2 y).length) (TA : SqT K H aP (W2.map V.str))
    (s0 : Same H0 H) (q : ∀ H' v', Same H0 H' → Dp K H' v' (if qs.isEmpty then y else refillX W2 y qs) → Q v' H') :
    ∃ k, TruV K (.ref p) H k ∧ (if k = true then tCall (sp_with K) [] E0 (tCons (tVar 0) (tCons (tC (V.ref aP)) (tCons (tVar 1) tNil))) σ H Q else tVar 0 σ H Q) := by
  obtain ⟨wd, fs, rest, rfl, hft, hff⟩ := he.form
  have hfl := he.flat
  rw [flatD, flatDs, Bool.and_eq_true] at hfl
  have hk := kidsW_of (W := W2) (rest := rest) hft
  have hl6 : (kidsW W2 (.tuple (.str wd :: rest))).length ≤ 44 := by
    have h1 := (kidsW_sub (W := W2) (fun _ h => h) (.tuple (.str wd :: rest))).length_le
    cases n with
    | zero => cases he
    | succ n =>
      have h2 := he.kids.2
      omega
  have hd0 := hd
  cases hd with
  | tup hS hB =>
  rename_i a vs1
  have lP := dpAll_len hPA
  refine ⟨!ups.isEmpty, .inl ⟨ups, hP, rfl⟩, ?_⟩
  cases hups : ups with
  | nil =>
    have hq0 : qs = [] := by
      rw [hups] at lP
      exact List.eq_nil_of_length_eq_zero lP.symm
    rw [hq0] at q
    exact iteF ⟨.ref a, h0, q H _ s0 hd0⟩
  | cons u0 ur =>
    have hq0 : qs.isEmpty = false := by
      rw [hups] at lP
      cases qs with
      | nil => cases lP
      | cons _ _ => rfl
    rw [hq0] at q
    rw [← hups]
    have hup : (!ups.isEmpty) = true := by
      rw [hups]
      rfl
    rw [hup]
    refine iteT ⟨.ref a, h0, .ref p, h1, a, aP, p, wd, fs, W2, rest, qs, ups, rfl, TA, hd0, hft, hff, hfl.2, hP, hPA, hPF, by rw [hlen, hk], by omega, fun H' r s hr' => q H' (.ref r) (s0.trans s) ?_⟩
    have : refillX W2 (.tuple (.str wd :: rest)) qs = .tuple (.str wd :: refill W2 fs rest qs) := by
      show PyData.tuple (.str wd :: refill W2 (fieldsOf wd) rest qs) = _
      rw [show fieldsOf wd = fs from fieldsOf_table (wd, fs) hft]
    rw [if_neg Bool.false_ne_true, this]
    exact hr'
theorem nok_mL {q0 : Int} {o : PyData} (hfo : flatD o = true) {fw : Addr} {fdw : FuncData} {k : Nat} (Gw : FnOk P w K mg base CX0 k fw fdw ["expression", "wanted", "parts"] (sp_with K)) (gw : mg "with_contained_of" = some (.ref fw)) (Kw : PySem.W.keepIn K (.ref fw) = true) (bw : Binds K fdw ["expression", "wanted", "parts"] [])
    {aP : Addr} (mALL : mg "ALL_PARTS" = some (.ref aP)) (TA : ∀ H, SqT K H aP (W2.map V.str)) : ∀ G, isMade st_mL G → ∀ g, NOk P w K mg base CX0 (k + 1) g G ["part", "parts"] fr_mL (sp_made K W2 (mkG W2 (fL q0 o)) (CapL K q0 o)) := by
  rintro G ⟨q, cl, c, rfl⟩ g
  refine nok_of (N := N_mL) ns_mL (fun _ _ _ us hl => match us, hl with | [_, _], _ => rfl) (fun ws vs H Q E h => ?_) (fun A outer s H vs ws Q E hr hf hc hl h => ?_)
  · obtain ⟨_, v, p, y, zs, n, qs, ups, rfl, _⟩ := h
    rfl
  obtain ⟨⟨vo, rfl, hvo⟩, v, p, y, zs, n, qs, ups, rfl, hd, he, hzs, hP, hPA, hPF, hlen, q⟩ := h
  refine ⟨_, (pss_cons (ps_if (pt_cmpR (op_eqM hr.units) (pv 0) (pe_tup (pa_cons pe_str (pa_cons (pv 3) pa_nil))) (nomark _))
        (pss_one (ps_ret (pv 2)))
        pss_nil)
      (pss_one (ps_ret (pe_ifExp (pt_truth (pv 1) (fun _ => rfl)) (pe_call Gw hr (by rfl) gw Kw bw .nil pass0 (pa_cons (pv 0) (pa_cons (pe_glob rfl mALL (v := .ref aP) rfl) (pa_cons (pv 1) pa_nil)))) (pv 0))))), ?_⟩
  refine ⟨v, rfl, .int q0, rfl, le2, fun t nt => ?_⟩
  have st := same_upd (o := .tup [.str "let", .int q0]) nt
  have hlt : Dp K (upd H t (.tup [.str "let", .int q0])) (.ref t) (letD q0) := new_tup (.cons (.str "let") (.cons (.int q0) .nil)) rfl nt
  have kt := KeepT.of st
  have hd := he.kept kt hd
  have hP : SqL K (upd H t (.tup [.str "let", .int q0])) p ups := sql_same st hP
  have hPA := dp_keepAll kt _ _ hPF hPA
  refine ⟨y, letD q0, hd, hlt, lay_of hzs he, lay_let q0, depth_let q0, _, rfl, ite2 (fun e1 => ?_) (fun e1 => ?_)⟩
  · refine ⟨vo, rfl, q _ vo st ?_⟩
    have : mkG W2 (fL q0 o) y qs = o := by
      unfold mkG fL
      rw [if_pos e1]
    rw [this]
    exact dp_keep kt _ _ hfo hvo
  have hmk : mkG W2 (fL q0 o) y qs = if qs.isEmpty then y else refillX W2 y qs := by
    unfold mkG fL
    rw [if_neg e1]
  rw [hmk] at q
  exact ⟨.ref p, rfl, else_run rfl rfl hd he hP hPA hPF hlen (TA _) st q⟩
def nmL : Nat → Nat → Str := fun _ _ => "led_over_let.<locals>.made"
def sp_lol (K : PySem.W.Frag) (T : List NTab) : Sp := fun vs H Q _ => ∃ (v vo : V) (q0 : Int) (o x : PyData) (zs : List Str) (n : Nat), vs = [v, .int q0, vo] ∧ Dp K H v x ∧ Ex zs n x ∧ NOks zs ∧ Dp K H vo o ∧ flatD o = true ∧ (flatP n x).length ≤ 200000 ∧ TabsN T H ∧ ∀ H' v', ExtN H H' → TabsN T H' → Dp K H' v' (foldE W2 (mkG W2 (fL q0 o)) n x) → Q v' H'
theorem ok_led_over_let {T : List NTab} {f ff c PT : Addr} {fd fdf : FuncData} {k : Nat} (F : FunC K "led_over_let" "led_over_let" s_led_over_let f fd c) (TB : TabB base mg c PT) (hm : (PT, nmL) ∈ T) (hu : ∀ p ∈ T, p.1 = PT → p.2 = nmL)
    (Gf : ∀ q0 o, flatD o = true → FnP P w K mg base k ff fdf ["expression", "wanted", "made"] (preC (isMade st_mL) fr_mL) (sp_folded K W2 (mkG W2 (fL q0 o)) (CapL K q0 o))) (gf : mg "folded" = some (.ref ff)) (Kf : PySem.W.keepIn K (.ref ff) = true) (bf : Binds K fdf ["expression", "wanted", "made"] [])
    {aP : Addr} (mALL : mg "ALL_PARTS" = some (.ref aP)) (TA : ∀ H, SqT K H aP (W2.map V.str)) :
    FnOk P w K mg base CX0 (k + 1) f fd ["expression", "position", "other"] (sp_lol K T) := by
  have nd := sc_led_over_let.nd
  refine F.ok sc_led_over_let (fun vs H Q E h => ?_) (fun A outer s H vs Q E hr h => ?_)
  · obtain ⟨v, vo, q0, o, x, zs, n, rfl, _⟩ := h
    rfl
  obtain ⟨v, vo, q0, o, x, zs, n, rfl, hd, he, hzs, hvo, hfo, hb, hT, q⟩ := h
  have hB : ndefB (defScope s_led_over_let) (C8.fnScope st_mL) fr_mL = true := by decide +kernel
  refine ⟨_, (pss_cons (ps_ndefMS (st := st_mL) (T := T) (nm := nmL) (c := c) (P := PT) (name := "made") (i := 3) rfl TB rfl hm rfl hu (ndef_free hB) rfl rfl rfl nd rfl (.inl rfl) (.inl rfl))
      (pss_one (ps_ret (pe_callC (mk := mkOf st_mL (cxOf CX0 P w K mg base N_lol "led_over_let" (defScope s_led_over_let) f (.ref c) A outer s H E).nox) (js := [2, 1]) (Gf q0 o hfo) (fun c' => ⟨_, _, _, rfl⟩) (fun _ => rfl) (fun ok => Caps.made ok (ndef_free hB) (ndef_fr hB) rfl) (fun _ => rfl) hr (by rfl) gf Kf bf (pa_cons (pv 0) (pa_cons (pe_glob rfl mALL (v := .ref aP) rfl) (pa_cons (pv 3) pa_nil))))))), ?_⟩
  refine ⟨hT, fun g c' H2 x2 _ hT2 _ hg hc => ?_⟩
  have k2 : KeepT H H2 := KeepT.ext x2
  refine ⟨v, rfl, .ref g, rfl, g, c', hg, hc, v, aP, x, zs, n, rfl, he.kept k2 hd, he, hzs, TA H2, ⟨vo, rfl, dp_keep k2 _ _ hfo hvo⟩, hb, fun H3 v' s3 hr3 => q H3 v' ?_ ?_ hr3⟩
  · exact x2.trans (ExtN.of s3)
  · exact fun p hp => (hT2 p hp).ext s3
end
end L41

set_option maxHeartbeats 1000000
namespace L41
open PySem PySem.Spec PyProof.Rows L2 GR WX TX RZ UA NdefX CLo LamX
/-! ### what a writer leaves behind it -/
def keyD : PyData := .tuple [.str "key"]
def condX (w t : Str) (P : PyData) : PyData := if w = "put" then P else guardX t P
def wrX (w t c : Str) (c' v' : PyData) : PyData := .tuple [.str "if", if w = "put" then .tuple [.str "=", keyD, c'] else c', v', .tuple [.str "cell", .str t, keyD, .str c]]
def adX (w c : Str) (c' : PyData) : List PyData := if w = "put" ∧ c = "in" then [c'] else []
def wrD (w t c : Str) (P V : PyData) : PyData := .tuple [.str w, .str t, P, .str c, V]
/-- a writer of the log -/
structure WrP (K : PySem.W.Frag) (H : Hp) (p : Addr) (v : V) (n lo : Int) (ms : List Int) (es : List Ent) (w t c : Str) (P V : PyData) (zs : List Str) (m : Nat) : Prop where
  lg : LgD K H p ms es
  lo : LowM ms n lo
  msl : ms.length ≤ 6
  esl : es.length ≤ 30
  dp : Dp K H v (wrD w t c P V)
  wd : w = "put" ∨ w = "each"
  fp : flatD P = true
  ec : Ex zs m (condX w t P)
  ev : Ex zs m V
  ok : NOks zs
  bc : (flatP m (condX w t P)).length ≤ 200000
  bv : (flatP m V).length ≤ 200000
theorem WrP.flat {K : PySem.W.Frag} {H : Hp} {p : Addr} {v : V} {n lo : Int} {ms : List Int} {es : List Ent} {w t c : Str} {P U : PyData} {zs : List Str} {m : Nat} (h : WrP K H p v n lo ms es w t c P U zs m) : flatDs [.str w, .str t, P, .str c, U] = true := by
  simp only [flatDs, flatD, h.fp, h.ev.flat, Bool.and_self]
theorem WrP.keep {K : PySem.W.Frag} {H H' : Hp} (k : KeepT H H') {p : Addr} {v : V} {n lo : Int} {ms : List Int} {es : List Ent} {w t c : Str} {P U : PyData} {zs : List Str} {m : Nat} (h : WrP K H p v n lo ms es w t c P U zs m) : WrP K H' p v n lo ms es w t c P U zs m := by
  have f : flatD (wrD w t c P U) = true := by
    unfold wrD
    simp only [flatD]
    exact h.flat
  exact ⟨h.lg.keep k, h.lo, h.msl, h.esl, dp_keep k _ _ f h.dp, h.wd, h.fp, h.ec, h.ev, h.ok, h.bc, h.bv⟩
theorem flat_varW {zs : List Str} {lz : Str → Option Int} {m : Nat} {x : PyData} (h : Ex zs m x) : flatD (varW lz m x) = true :=
  flat_fold (W := W2) (fun _ h => h) (fun n y qs h hq => (mkOkV (K := []) (lz := lz)).flat zs n y qs h hq) h
section
variable {P : Program} {w : World} {K : PySem.W.Frag} {mg : Str → Option Value} {base : Heap}
abbrev s_keys_added : Stmt := topS 38
theorem sc_keys_added : FnScope ["log", "position", "statement"] ["log", "position", "statement"] (defScope s_keys_added) := ⟨rfl, rfl, rfl, by decide +kernel, rfl, by decide +kernel, by decide +kernel⟩
def sp_ka (K : PySem.W.Frag) (T : List NTab) : Sp := fun vs H Q _ => ∃ (p : Addr) (v : V) (n lo : Int) (ms : List Int) (es : List Ent) (wd t c : Str) (Pd U : PyData) (zs : List Str) (m : Nat), vs = [.ref p, .int n, v] ∧ WrP K H p v n lo ms es wd t c Pd U zs m ∧ TabsN T H ∧
  ∀ H' a us, ExtN H H' → TabsN T H' → H' a = some (.tup us) → DpAll K H' us (adX wd c (varW (lzOf lo n es) m (condX wd t Pd))) → Q (.ref a) H'
theorem ok_keys_added {T : List NTab} {f fl : Addr} {fd fdl : FuncData} {k : Nat} (F : Fun K "keys_added" "keys_added" s_keys_added f fd) (Gl : FnOk P w K mg base CX0 k fl fdl ["log", "position", "statement", "word"] (sp_slt K T)) (gl : mg "slot_led_to" = some (.ref fl)) (Kl : PySem.W.keepIn K (.ref fl) = true) (bl : Binds K fdl ["log", "position", "statement", "word"] []) :
    FnOk P w K mg base CX0 (k + 1) f fd ["log", "position", "statement"] (sp_ka K T) := by
  have nd := sc_keys_added.nd
  refine F.ok sc_keys_added (fun vs H Q E h => ?_) (fun cdv A outer s H vs Q E hr h => ?_)
  · obtain ⟨p, v, n, lo, ms, es, wd, t, c, Pd, U, zs, m, rfl, _⟩ := h
    rfl
  obtain ⟨p, v, n, lo, ms, es, wd, t, c, Pd, U, zs, m, rfl, hW, hT, q⟩ := h
  refine ⟨_, (pss_cons (ps_if (PW.pt (pw_and (pt_cmpR op_eq (pe_ix ix_tup (pv 2) pe_int (fun _ _ => rfl)) pe_str (nomark _)) (pw_and1 (pt_cmpR op_eq (pe_ix ix_tup (pv 2) pe_int (fun _ _ => rfl)) pe_str (nomark _)))))
      (pss_one (ps_ret (pe_tup (pa_cons (pe_call Gl hr (by rfl) gl Kl bl .nil pass0 (pa_cons (pv 0) (pa_cons (pv 1) (pa_cons (pv 2) (pa_cons pe_str pa_nil))))) pa_nil))))
      pss_nil)
      (pss_one (ps_ret (pe_tup pa_nil)))), ?_⟩
  have hd := hW.dp
  unfold wrD at hd
  cases hd with
  | @tup a _ _ hS hA =>
  have hd := hW.dp
  cases hA with
  | cons g0 hA =>
  cases g0
  cases hA with
  | cons g1 hA =>
  cases g1
  cases hA with
  | cons g2 hA =>
  cases hA with
  | cons g3 hA =>
  cases g3
  have none_of : (¬ (wd = "put" ∧ c = "in")) → ∀ a, H a = none → Q (.ref a) (upd H a (.tup [])) := fun hn a na => by
    refine q _ a [] (ExtN.of (same_upd na)) (fun p hp => (hT p hp).ext (same_upd na)) upd_same ?_
    unfold adX
    rw [if_neg hn]
    exact .nil
  refine ⟨.ref a, rfl, a, _, 0, .str wd, rfl, rfl, hS, at0, rfl, _, rfl, ?_⟩
  by_cases e1 : wd = "put"
  · rw [decide_eq_true (congrArg V.str e1)]
    refine iteT ⟨.ref a, rfl, a, _, 3, .str c, rfl, rfl, hS, at3, rfl, _, rfl, ?_⟩
    by_cases e2 : c = "in"
    · rw [decide_eq_true (congrArg V.str e2)]
      have hec := hW.ec
      have hbc := hW.bc
      have hq : condX wd t Pd = Pd := if_pos e1
      rw [hq] at hec hbc q
      refine iteT ⟨.ref p, rfl, .int n, rfl, .ref a, rfl, p, .ref a, n, lo, "key", ms, es, _, Pd, zs, m, rfl, hW.lg, hW.lo, hW.msl, hW.esl, hd, hW.flat, .inr (.inl ⟨rfl, rfl⟩), hec, hW.ok, hbc, hT, fun H1 v1 x1 hT1 hv1 => ?_⟩
      refine ⟨h1000 (show 1 ≤ 1000 by decide), fun b nb => ?_⟩
      have sb := same_upd (o := .tup [v1]) nb
      refine q _ b [v1] (x1.trans (ExtN.of sb)) (fun p hp => (hT1 p hp).ext sb) upd_same ?_
      unfold adX
      rw [if_pos ⟨e1, e2⟩]
      exact .cons (dp_keep (KeepT.of sb) _ _ (flat_varW hec) hv1) .nil
    · rw [decide_eq_false (fun z => e2 (V.str.inj z))]
      exact iteF ⟨Nat.zero_le _, fun b nb => none_of (fun z => e2 z.2) b nb⟩
  · rw [decide_eq_false (fun z => e1 (V.str.inj z))]
    exact iteF ⟨Nat.zero_le _, fun b nb => none_of (fun z => e1 z.1) b nb⟩
abbrev s_cell_behind : Stmt := topS 37
abbrev N_cb : List Str := ["log", "position", "statement", "table", "column", "condition", "value"]
theorem sc_cell_behind : FnScope N_cb ["log", "position", "statement"] (defScope s_cell_behind) := ⟨rfl, rfl, rfl, by decide +kernel, rfl, by decide +kernel, by decide +kernel⟩
def sp_cb (K : PySem.W.Frag) (T : List NTab) : Sp := fun vs H Q _ => ∃ (p : Addr) (v : V) (n lo : Int) (ms : List Int) (es : List Ent) (wd t c : Str) (Pd U : PyData) (zs : List Str) (m : Nat), vs = [.ref p, .int n, v] ∧ WrP K H p v n lo ms es wd t c Pd U zs m ∧ TabsN T H ∧
  ∀ H' v', ExtN H H' → TabsN T H' → Dp K H' v' (wrX wd t c (varW (lzOf lo n es) m (condX wd t Pd)) (varW (lzOf lo n es) m U)) → Q v' H'
theorem col_wr {wd t c : Str} {Pd U : PyData} (h : wd = "put" ∨ wd = "each") : ColS (wrD wd t c Pd U) (some (t, c)) := ⟨wd, _, rfl, .inl ⟨t, c, Pd, U, h, rfl, rfl⟩⟩
theorem ok_cell_behind {T : List NTab} {f fl fc aK : Addr} {fd fdl fdc : FuncData} {k : Nat} (F : Fun K "cell_behind" "cell_behind" s_cell_behind f fd) (Gl : FnOk P w K mg base CX0 k fl fdl ["log", "position", "statement", "word"] (sp_slt K T)) (gl : mg "slot_led_to" = some (.ref fl)) (Kl : PySem.W.keepIn K (.ref fl) = true) (bl : Binds K fdl ["log", "position", "statement", "word"] [])
    (Gc : FnOk P w K mg base CX0 k fc fdc ["statement"] (sp_col K)) (gc : mg "column_of" = some (.ref fc)) (Kc : PySem.W.keepIn K (.ref fc) = true) (bc : Binds K fdc ["statement"] [])
    (mKEY : mg "KEY" = some (.ref aK)) (TK : ∀ H, SqT K H aK [.str "key"]) :
    FnOk P w K mg base CX0 (k + 1) f fd ["log", "position", "statement"] (sp_cb K T) := by
  have nd := sc_cell_behind.nd
  refine F.ok sc_cell_behind (fun vs H Q E h => ?_) (fun cdv A outer s H vs Q E hr h => ?_)
  · obtain ⟨p, v, n, lo, ms, es, wd, t, c, Pd, U, zs, m, rfl, _⟩ := h
    rfl
  obtain ⟨p, v, n, lo, ms, es, wd, t, c, Pd, U, zs, m, rfl, hW, hT, q⟩ := h
  refine ⟨_, (pss_cons (ps_asg (pe_call Gc hr (by rfl) gc Kc bc .nil pass0 (pa_cons (pv 2) pa_nil)) (pg_tup rfl (pgs_cons (pg_name (i := 3) nd rfl (Or.inl rfl)) (pgs_cons (pg_name (i := 4) nd rfl (Or.inl rfl)) pgs_nil))))
      (pss_cons (ps_if (pt_cmpR op_eq (pe_ix ix_tup (pv 2) pe_int (fun _ _ => rfl)) pe_str (nomark _))
      (pss_one (ps_set (i := 5) nd rfl (.inl rfl) (pe_tup (pa_cons pe_str (pa_cons (pe_glob rfl mKEY (v := .ref aK) rfl) (pa_cons (pe_call Gl hr (by rfl) gl Kl bl .nil pass0 (pa_cons (pv 0) (pa_cons (pv 1) (pa_cons (pv 2) (pa_cons pe_str pa_nil))))) pa_nil))))))
      (pss_one (ps_set (i := 5) nd rfl (.inl rfl) (pe_call Gl hr (by rfl) gl Kl bl .nil pass0 (pa_cons (pv 0) (pa_cons (pv 1) (pa_cons (pv 2) (pa_cons pe_str pa_nil))))))))
      (pss_cons (ps_set (i := 6) nd rfl (.inl rfl) (pe_call Gl hr (by rfl) gl Kl bl .nil pass0 (pa_cons (pv 0) (pa_cons (pv 1) (pa_cons (pv 2) (pa_cons pe_str pa_nil))))))
      (pss_one (ps_ret (pe_tup (pa_cons pe_str (pa_cons (pv 5) (pa_cons (pv 6) (pa_cons (pe_tup (pa_cons pe_str (pa_cons (pv 3) (pa_cons (pe_glob rfl mKEY (v := .ref aK) rfl) (pa_cons (pv 4) pa_nil))))) pa_nil)))))))))), ?_⟩
  refine ⟨v, rfl, v, _, some (t, c), rfl, hW.dp, col_wr hW.wd, fun H1 r s1 ⟨b, hr0, hb⟩ => ?_⟩
  subst hr0
  have hb' : SqT K H1 b [.str t, .str c] := .inl (.inl hb)
  refine ⟨b, _, rfl, hb', rfl, _, _, rfl, _, _, rfl, rfl, ?_⟩
  have hW1 := hW.keep (KeepT.of s1)
  have hT1 : TabsN T H1 := fun p hp => (hT p hp).ext s1
  -- from the condition on
  have rest : ∀ H2 vc dc, ExtN H1 H2 → flatD dc = true → Dp K H2 vc dc → (dc = if wd = "put" then .tuple [.str "=", keyD, varW (lzOf lo n es) m (condX wd t Pd)] else varW (lzOf lo n es) m (condX wd t Pd)) →
      ∀ H3 v3, ExtN H2 H3 → TabsN T H3 → Dp K H3 v3 (varW (lzOf lo n es) m U) → ∀ a1, H3 a1 = none → ∀ a2, upd H3 a1 (.tup [.str "cell", .str t, .ref aK, .str c]) a2 = none → Q (.ref a2) (upd (upd H3 a1 (.tup [.str "cell", .str t, .ref aK, .str c])) a2 (.tup [.str "if", vc, v3, .ref a1])) := by
    intro H2 vc dc x2 fdc hdc edc H3 v3 x3 hT3 hv3 a1 n1 a2 n2
    have sa := same_upd (o := .tup [.str "cell", .str t, .ref aK, .str c]) n1
    have sb := same_upd (o := .tup [.str "if", vc, v3, .ref a1]) n2
    have hk : ∀ H', Dp K H' (.ref aK) keyD := fun H' => .tup (TK H') (.cons (.str "key") .nil)
    have hcell : Dp K (upd H3 a1 (.tup [.str "cell", .str t, .ref aK, .str c])) (.ref a1) (.tuple [.str "cell", .str t, keyD, .str c]) := new_tup (.cons (.str _) (.cons (.str t) (.cons (hk _) (.cons (.str c) .nil)))) rfl n1
    have fv := flat_varW (lz := lzOf lo n es) hW.ev
    refine q _ _ (((ExtN.of s1).trans (x2.trans x3)).trans ((ExtN.of sa).trans (ExtN.of sb))) (fun p hp => ((hT3 p hp).ext sa).ext sb) ?_
    unfold wrX
    rw [← edc]
    refine new_tup (.cons (.str "if") (.cons (dp_keep ((KeepT.ext x3).trans (KeepT.of sa)) _ _ fdc hdc) (.cons (dp_keep (KeepT.of sa) _ _ fv hv3) (.cons hcell .nil)))) ?_ n2
    simp only [flatDs, flatD, fdc, fv, keyD, Bool.and_self]
  have hd := hW1.dp
  unfold wrD at hd
  cases hd with
  | tup hS hA =>
  have hd := hW1.dp
  cases hA with
  | cons g0 hA =>
  cases g0
  rename_i a _
  have fc := flat_varW (lz := lzOf lo n es) hW.ec
  refine ⟨.ref a, rfl, a, _, 0, .str wd, rfl, rfl, hS, at0, rfl, _, rfl, ?_⟩
  by_cases e1 : wd = "put"
  · rw [decide_eq_true (congrArg V.str e1)]
    have hec := hW.ec
    have hbc := hW.bc
    have hq : condX wd t Pd = Pd := if_pos e1
    rw [hq] at hec hbc
    refine iteT ⟨.ref p, rfl, .int n, rfl, .ref a, rfl, p, .ref a, n, lo, "key", ms, es, _, Pd, zs, m, rfl, hW1.lg, hW.lo, hW.msl, hW.esl, hd, hW.flat, .inr (.inl ⟨rfl, rfl⟩), hec, hW.ok, hbc, hT1, fun H2 v2 x2 hT2 hv2 => ?_⟩
    refine ⟨h1000 (show 3 ≤ 1000 by decide), fun b2 nb2 => ?_⟩
    have sb := same_upd (o := .tup [.str "=", .ref aK, v2]) nb2
    rw [hq] at fc
    have hdc : Dp K (upd H2 b2 (.tup [.str "=", .ref aK, v2])) (.ref b2) (.tuple [.str "=", keyD, varW (lzOf lo n es) m Pd]) := new_tup (.cons (.str "=") (.cons (.tup (TK _) (.cons (.str "key") .nil)) (.cons hv2 .nil))) (by simp only [flatDs, flatD, fc, keyD, Bool.and_self]) nb2
    have x12 := x2.trans (ExtN.of sb)
    have hW2 := hW1.keep (KeepT.ext x12)
    refine ⟨.ref p, rfl, .int n, rfl, .ref a, rfl, p, .ref a, n, lo, "value", ms, es, _, U, zs, m, rfl, hW2.lg, hW2.lo, hW2.msl, hW2.esl, hW2.dp, hW2.flat, .inr (.inr ⟨by decide, by decide, [.str wd, .str t, Pd, .str c], rfl⟩), hW.ev, hW.ok, hW.bv, (fun p hp => (hT2 p hp).ext sb), fun H3 v3 x3 hT3 hv3 => ?_⟩
    refine ⟨.ref b2, rfl, v3, rfl, .str t, rfl, .str c, rfl, h1000 (show 4 ≤ 1000 by decide), fun a1 n1 => ⟨h1000 (show 4 ≤ 1000 by decide), fun a2 n2 => ?_⟩⟩
    exact rest _ _ _ x12 (by simp only [flatDs, flatD, fc, keyD, Bool.and_self]) hdc (by rw [if_pos e1, hq]) H3 v3 x3 hT3 hv3 a1 n1 a2 n2
  · rw [decide_eq_false (fun z => e1 (V.str.inj z))]
    have e2 : wd = "each" := hW.wd.resolve_left e1
    have hq : condX wd t Pd = guardX t Pd := if_neg e1
    refine iteF ⟨.ref p, rfl, .int n, rfl, .ref a, rfl, p, .ref a, n, lo, "guard", ms, es, _, condX wd t Pd, zs, m, rfl, hW1.lg, hW.lo, hW.msl, hW.esl, hd, hW.flat, .inl ⟨rfl, t, Pd, rfl, rfl, hq⟩, hW.ec, hW.ok, hW.bc, hT1, fun H2 v2 x2 hT2 hv2 => ?_⟩
    have hW2 := hW1.keep (KeepT.ext x2)
    refine ⟨.ref p, rfl, .int n, rfl, .ref a, rfl, p, .ref a, n, lo, "value", ms, es, _, U, zs, m, rfl, hW2.lg, hW2.lo, hW2.msl, hW2.esl, hW2.dp, hW2.flat, .inr (.inr ⟨by decide, by decide, [.str wd, .str t, Pd, .str c], rfl⟩), hW.ev, hW.ok, hW.bv, hT2, fun H3 v3 x3 hT3 hv3 => ?_⟩
    refine ⟨v2, rfl, v3, rfl, .str t, rfl, .str c, rfl, h1000 (show 4 ≤ 1000 by decide), fun a1 n1 => ⟨h1000 (show 4 ≤ 1000 by decide), fun a2 n2 => ?_⟩⟩
    exact rest _ _ _ x2 fc hv2 (by rw [if_neg e1]) H3 v3 x3 hT3 hv3 a1 n1 a2 n2
end
end L41

set_option maxHeartbeats 1000000
namespace L41
open PySem PySem.Spec PyProof.Rows L2 GR WX TX RZ UA NdefX CLo LamX
open _root_.StX (pa_star)
/-! ### a writer led over -/
def addX (ad : List PyData) : PyData → PyData
  | .tuple (a :: b :: .tuple xs :: r) => .tuple (a :: b :: .tuple (xs ++ ad) :: r)
  | x => x
def chX (y : PyData) (qs : List PyData) : PyData := if qs.isEmpty then y else refillX W2 y qs
def mkW (d : Pr) (wr : PyData) (ad : List PyData) (y : PyData) (qs : List PyData) : PyData :=
  if headW y = "cell" ∧ colOf y = some d then .tuple [.str "at", qs.headD y, wr]
  else if headW y ∈ aggW ∧ colOf y = some (d.1, ("in" : Str)) then addX ad (chX y qs) else chX y qs
abbrev s_led_over_writer : Stmt := topS 36
abbrev N_low : List Str := ["log", "expression", "position", "statement", "made", "added", "column", "table", "written"]
theorem sc_led_over_writer : FnScope N_low ["log", "expression", "position", "statement"] (defScope s_led_over_writer) := ⟨rfl, rfl, rfl, by decide +kernel, rfl, by decide +kernel, by decide +kernel⟩
abbrev st_mW : Stmt := (defBody s_led_over_writer).getD 3 (.Pass ⟨0, 0, 0, 0⟩)
abbrev N_mW : List Str := ["part", "parts", "added", "column", "table", "written", "changed"]
abbrev fr_mW : List Str := ["added", "column", "table", "written"]
theorem ns_mW : NScope N_mW ["part", "parts"] fr_mW (C8.fnScope st_mW) := nscope_by (by decide +kernel)
def CapW (K : PySem.W.Frag) (d : Pr) (wr : PyData) (ad : List PyData) (ws : List (Option V)) (H : Hp) : Prop := ∃ (pa : Addr) (us : List V) (vr : V), ws = [some (.ref pa), some (.str d.2), some (.str d.1), some vr] ∧ H pa = some (.tup us) ∧ DpAll K H us ad ∧ Dp K H vr wr
theorem flat_append {a b : List PyData} (h : flatDs a = true) (g : flatDs b = true) : flatDs (a ++ b) = true := by
  induction a with
  | nil => exact g
  | cons x a ih =>
    rw [flatDs, Bool.and_eq_true] at h
    rw [List.cons_append, flatDs, h.1, ih h.2]
    rfl
theorem flat_addX {ad : List PyData} (h : flatDs ad = true) {x : PyData} (hx : flatD x = true) : flatD (addX ad x) = true := by
  unfold addX
  split
  · rename_i a b xs r
    simp only [flatD, flatDs, Bool.and_eq_true] at hx
    simp only [flatD, flatDs, hx.1, hx.2.1, hx.2.2.2, flat_append hx.2.2.1 h, Bool.and_self]
  · exact hx
theorem flat_chX {zs : List Str} {n : Nat} {y : PyData} {qs : List PyData} (h : Ex zs n y) (hq : flatDs qs = true) : flatD (chX y qs) = true := by
  unfold chX
  split
  · exact h.flat
  · exact flat_refillX h hq
theorem flat_headD {y : PyData} {qs : List PyData} (h : flatD y = true) (hq : flatDs qs = true) : flatD (qs.headD y) = true := by
  cases qs with
  | nil => exact h
  | cons q qs =>
    rw [flatDs, Bool.and_eq_true] at hq
    exact hq.1
theorem mkOkW {K : PySem.W.Frag} {d : Pr} {wr : PyData} {ad : List PyData} (hw : flatD wr = true) (ha : flatDs ad = true) : MkOk W2 (mkW d wr ad) (CapW K d wr ad) := by
  refine ⟨fun _ h => h, fun zs n y qs h hq => ?_, fun ws H H' s h => ?_⟩
  · unfold mkW
    split
    · simp only [flatD, flatDs, hw, flat_headD h.flat hq, Bool.and_self]
    · split
      · exact flat_addX ha (flat_chX h hq)
      · exact flat_chX h hq
  · obtain ⟨pa, us, vr, rfl, h1, h2, h3⟩ := h
    exact ⟨pa, us, vr, rfl, s _ _ h1, dp_keepAll (KeepT.of s) _ _ ha h2, dp_keep (KeepT.of s) _ _ hw h3⟩
abbrev tTailW (K : PySem.W.Frag) (aP aA : Addr) : TS := tSeq (tAsg (tIf (fun σ H Q => tVar 1 σ H fun x H' => ∃ k, TruV K x H' k ∧ Q k H') (tCall (sp_with K) [] E0 (tCons (tVar 0) (tCons (tC (V.ref aP)) (tCons (tVar 1) tNil)))) (tVar 0)) (gName 6)) (tSeq (tIfS (tAnd (tTest (tOp (rIn K false) (tOp (rIxT K) (tVar 0) (tC (.int 0))) (tC (.ref aA)))) (tTest (tOp rEq (tOp (rIxT K) (tVar 0) (tC (.int 1))) (tVar 4)))) (tRet (tTup (StX.tStar K (tSl (rSlT K) (tVar 6) tNoPart (tPart (tC (.int 2)))) (tCons (tTup (StX.tStar K (tOp (rIxT K) (tVar 6) (tC (.int 2))) (StX.tStar K (tVar 2) tNil))) (StX.tStar K (tSl (rSlT K) (tVar 6) (tPart (tC (.int 3))) tNoPart) tNil))))) tNext) (tRet (tVar 6)))
theorem dpAll_app {K : PySem.W.Frag} {H : Hp} : ∀ {vs us : List V} {ds es : List PyData}, DpAll K H vs ds → DpAll K H us es → DpAll K H (vs ++ us) (ds ++ es)
  | _, _, _, _, .nil, h => h
  | _, _, _, _, .cons h t, g => .cons h (dpAll_app t g)
section
variable {P : Program} {w : World} {K : PySem.W.Frag} {mg : Str → Option Value} {base : Heap}
theorem nok_mW {d : Pr} {wr : PyData} {ad : List PyData} (hfw : flatD wr = true) (hfa : flatDs ad = true) (hla : ad.length ≤ 1) {fw : Addr} {fdw : FuncData} {k : Nat} (Gw : FnOk P w K mg base CX0 k fw fdw ["expression", "wanted", "parts"] (sp_with K)) (gw : mg "with_contained_of" = some (.ref fw)) (Kw : PySem.W.keepIn K (.ref fw) = true) (bw : Binds K fdw ["expression", "wanted", "parts"] [])
    {aP : Addr} (mALL : mg "ALL_PARTS" = some (.ref aP)) (TA : ∀ H, SqT K H aP (W2.map V.str)) {aA : Addr} (mAGG : mg "AGGREGATES" = some (.ref aA)) (TG : AggK K aA) : ∀ G, isMade st_mW G → ∀ g, NOk P w K mg base CX0 (k + 1) g G ["part", "parts"] fr_mW (sp_made K W2 (mkW d wr ad) (CapW K d wr ad)) := by
  rintro G ⟨q, cl, c, rfl⟩ g
  refine nok_of (N := N_mW) ns_mW (fun _ _ _ us hl => match us, hl with | [_, _], _ => rfl) (fun ws vs H Q E h => ?_) (fun A outer s H vs ws Q E hr hf hc hl h => ?_)
  · obtain ⟨_, v, p, y, zs, n, qs, ups, rfl, _⟩ := h
    rfl
  obtain ⟨⟨pa, ua, vr, rfl, hpa, hua, hvr⟩, v, p, y, zs, n, qs, ups, rfl, hd, he, hzs, hP, hPA, hPF, hlen, q⟩ := h
  refine ⟨_, (pss_cons (ps_if (PW.pt (pw_and (pt_cmpR op_eq (pe_ix ix_tup (pv 0) pe_int (fun _ _ => rfl)) pe_str (nomark _)) (pw_and (pt_cmpR op_eq (pe_ix ix_tup (pv 0) pe_int (fun _ _ => rfl)) (pv 4) (nomark _)) (pw_and1 (pt_cmpR op_eq (pe_ix ix_tup (pv 0) pe_int (fun _ _ => rfl)) (pv 3) (nomark _))))))
        (pss_one (ps_ret (pe_tup (pa_cons pe_str (pa_cons (pe_ix ix_list (pv 1) pe_int (fun _ _ => rfl)) (pa_cons (pv 5) pa_nil))))))
        pss_nil)
      (pss_cons (ps_set (i := 6) ns_mW.nd rfl (.inl rfl) (pe_ifExp (pt_truth (pv 1) (fun _ => rfl)) (pe_call Gw hr (by rfl) gw Kw bw .nil pass0 (pa_cons (pv 0) (pa_cons (pe_glob rfl mALL (v := .ref aP) rfl) (pa_cons (pv 1) pa_nil)))) (pv 0)))
      (pss_cons (ps_if (PW.pt (pw_and (pt_cmpR op_in_seq (pe_ix ix_tup (pv 0) pe_int (fun _ _ => rfl)) (pe_glob rfl mAGG (v := .ref aA) rfl) (by rfl)) (pw_and1 (pt_cmpR op_eq (pe_ix ix_tup (pv 0) pe_int (fun _ _ => rfl)) (pv 4) (nomark _)))))
        (pss_one (ps_ret (pe_tup (pa_star (pe_slice L2.sl_tup (pv 6) po_none (po_some pe_int)) (pa_cons (pe_tup (pa_star (pe_ix ix_tup (pv 6) pe_int (fun _ _ => rfl)) (pa_star (pv 2) pa_nil))) (pa_star (pe_slice L2.sl_tup (pv 6) (po_some pe_int) po_none) pa_nil))))))
        pss_nil)
      (pss_one (ps_ret (pv 6)))))), ?_⟩
  obtain ⟨wd, fs, rest, ey, hft, hff⟩ := he.form
  have hd0 := hd
  rw [ey] at hd0
  cases hd0 with
  | @tup a _ _ hS hB =>
  cases hB with
  | @cons _ vs1 _ _ hw hB =>
  cases hw
  have hhw : headW y = wd := by rw [ey]; rfl
  refine ⟨.ref a, rfl, a, _, 0, .str wd, rfl, rfl, hS, at0, rfl, _, rfl, ?_⟩
  have tail : ¬ (headW y = "cell" ∧ colOf y = some d) → tTailW K aP aA { nx := fun _ H' => Q .non H', rt := Q } [some (.ref a), some (.ref p), some (.ref pa), some (.str d.2), some (.str d.1), some vr, none] H := by
    intro hno
    refine ⟨.ref p, rfl, else_run rfl rfl hd he hP hPA hPF hlen (TA _) (fun _ _ e => e) (fun H1 v1 s1 hv1 => ?_)⟩
    have hS1 := (KeepT.of s1).seqt hS
    refine ⟨.ref a, rfl, a, _, 0, .str wd, rfl, rfl, hS1, at0, aA, _, rfl, .inr (TG H1), rfl, flat_strs aggW, _, rfl, ?_⟩
    rw [wanted_in]
    by_cases e2 : wd ∈ aggW
    · rw [decide_eq_true e2]
      have he2 := he
      rw [ey] at he2
      obtain ⟨m, t, xs, y1, ys, en, er, ht, hag, hx40, _, hy1, _⟩ := he2.agg_of e2
      subst er
      cases hB with
      | cons g1 hB =>
      cases g1
      have hcol : colOf y = some (t, ("in" : Str)) := by rw [ey]; exact col_agg e2 hy1
      refine iteT ⟨.ref a, rfl, a, _, 1, .str t, rfl, rfl, hS1, at1, .str d.1, rfl, rfl, _, rfl, ?_⟩
      by_cases e3 : t = d.1
      · rw [decide_eq_true (congrArg V.str e3)]
        have hmk : mkW d wr ad y qs = addX ad (chX y qs) := by
          unfold mkW
          rw [if_neg hno, if_pos ⟨hhw ▸ e2, by rw [hcol, e3]⟩]
        have hkl : qs.length = xs.length + (ys.length + 1) := by
          rw [hlen, kidsW2, ey, kids_agg (ys := y1 :: ys) hag, List.length_append, List.length_cons]
        have hch : chX y qs = .tuple (.str wd :: .str t :: .tuple (qs.take xs.length) :: qs.drop xs.length) := by
          have hq0 : qs.isEmpty = false := by
            cases qs with
            | nil => simp at hkl
            | cons _ _ => rfl
          unfold chX
          rw [hq0, if_neg Bool.false_ne_true, ey]
          have := fill_agg (t := t) (xs := xs) (ys := y1 :: ys) hag (as := qs.take xs.length) (bs := qs.drop xs.length) (by rw [List.length_take]; omega) (by rw [List.length_drop, List.length_cons]; omega)
          rw [List.take_append_drop] at this
          exact this
        rw [hmk, hch] at q
        have hv2 : Dp K H1 v1 (.tuple (.str wd :: .str t :: .tuple (qs.take xs.length) :: qs.drop xs.length)) := hch ▸ hv1
        have fA : flatDs (qs.take xs.length) = true := flatDs_take _ hPF
        have fB : flatDs (qs.drop xs.length) = true := flatDs_drop _ hPF
        have lA : (qs.take xs.length).length ≤ 40 := by rw [List.length_take]; omega
        have lB : 2 ≤ (qs.drop xs.length).length ∧ (qs.drop xs.length).length ≤ 4 := by
          have h2 := (aggs_w hag).2
          have h4 : ∀ o k, (o, k) ∈ aggs → k ≤ 4 := by
            intro o k h
            simp only [aggs, List.mem_cons, List.not_mem_nil, or_false, Prod.mk.injEq] at h
            omega
          have h5 := h4 _ _ hag
          rw [List.length_drop]
          omega
        revert hv2 fA fB lA lB q
        generalize qs.take xs.length = qa
        generalize qs.drop xs.length = qb
        intro q hv2 fA fB lA lB
        cases hv2 with
        | @tup b _ _ hS2 hB2 =>
        cases hB2 with
        | cons k1 hB2 =>
        cases k1
        cases hB2 with
        | cons k2 hB2 =>
        cases k2
        cases hB2 with
        | cons k3 hB2 =>
        cases k3 with
        | @tup b3 us3 _ hS3 hB3 =>
        rename_i ub
        have lub := dpAll_len hB2
        have lu3 := dpAll_len hB3
        have lua := dpAll_len hua
        refine iteT ⟨.ref b, rfl, 2, rfl, b, _, rfl, hS2, ?_, fun p1 n1 => ?_⟩
        · rintro ⟨_, e⟩
          have : HT.sIx (V.str wd :: V.str t :: V.ref b3 :: ub).length (V.str wd :: V.str t :: V.ref b3 :: ub).length (some 2) = min 2 (V.str wd :: V.str t :: V.ref b3 :: ub).length := HT.sIx_nat _ _ 2
          rw [this] at e
          simp only [List.length_cons] at e
          omega
        have cut1 : cutV (V.str wd :: V.str t :: V.ref b3 :: ub) none (some 2) = [V.str wd, V.str t] := by
          unfold cutV
          rw [HT.sIx_none, show HT.sIx (V.str wd :: V.str t :: V.ref b3 :: ub).length (V.str wd :: V.str t :: V.ref b3 :: ub).length (some 2) = min 2 (V.str wd :: V.str t :: V.ref b3 :: ub).length from HT.sIx_nat _ _ 2]
          simp only [List.length_cons, List.drop_zero, Nat.sub_zero]
          rw [show min 2 (ub.length + 1 + 1 + 1) = 2 by omega]
          rfl
        have cut2 : cutV (V.str wd :: V.str t :: V.ref b3 :: ub) (some 3) none = ub := by
          unfold cutV
          rw [HT.sIx_none, show HT.sIx (V.str wd :: V.str t :: V.ref b3 :: ub).length 0 (some 3) = min 3 (V.str wd :: V.str t :: V.ref b3 :: ub).length from HT.sIx_nat _ _ 3]
          simp only [List.length_cons]
          rw [show min 3 (ub.length + 1 + 1 + 1) = 3 by omega]
          show List.take (ub.length + 1 + 1 + 1 - 3) ub = ub
          rw [show ub.length + 1 + 1 + 1 - 3 = ub.length by omega, List.take_length]
        rw [cut1]
        have s2 := same_upd (o := .tup [V.str wd, V.str t]) n1
        have hS22 := (KeepT.of s2).seqt hS2
        refine ⟨p1, _, rfl, .inl (.inl (.inl upd_same)), .ref b, rfl, b, _, 2, .ref b3, rfl, rfl, hS22, atI_nat (j := 2) rfl, b3, us3, rfl, .inl ((KeepT.of s2).seqt hS3), .ref pa, rfl, pa, ua, rfl, .inl (.inl (.inl (s2 _ _ (s1 _ _ hpa)))), ?_, fun p2 n2 => ?_⟩
        · rw [List.append_nil, List.length_append]
          exact h1000 (by omega)
        rw [List.append_nil]
        have s3 := same_upd (o := .tup (us3 ++ ua)) n2
        refine ⟨.ref b, rfl, 3, rfl, b, _, rfl, (KeepT.of s3).seqt hS22, ?_, fun p3 n3 => ?_⟩
        · rintro ⟨e, _⟩
          have : HT.sIx (V.str wd :: V.str t :: V.ref b3 :: ub).length 0 (some 3) = min 3 (V.str wd :: V.str t :: V.ref b3 :: ub).length := HT.sIx_nat _ _ 3
          rw [this] at e
          simp only [List.length_cons] at e
          omega
        rw [cut2]
        have s4 := same_upd (o := .tup ub) n3
        refine ⟨p3, _, rfl, .inl (.inl (.inl upd_same)), ?_, fun p4 n4 => ?_⟩
        · simp only [List.length_append, List.length_cons, List.length_nil]
          exact h1000 (by omega)
        have s5 := same_upd (o := .tup ([V.str wd, V.str t] ++ (V.ref p2 :: (ub ++ [])))) n4
        have s25 := s2.trans (s3.trans s4)
        refine q _ _ (s1.trans (s25.trans s5)) ?_
        have fAd : flatDs (qa ++ ad) = true := flat_append fA hfa
        have hp2 : Dp K (upd (upd (upd H1 p1 (.tup [V.str wd, V.str t])) p2 (.tup (us3 ++ ua))) p3 (.tup ub)) (.ref p2) (.tuple (qa ++ ad)) := dp_keep (KeepT.of s4) _ _ (by rw [flatD]; exact fAd) (new_tup (dpAll_app (dp_keepAll (KeepT.of s2) _ _ fA hB3) (dp_keepAll (KeepT.of (s1.trans s2)) _ _ hfa hua)) fAd n2)
        show Dp K _ _ (.tuple (.str wd :: .str t :: .tuple (qa ++ ad) :: qb))
        rw [List.append_nil]
        refine new_tup (.cons (.str wd) (.cons (.str t) (.cons hp2 (dp_keepAll (KeepT.of s25) _ _ fB hB2)))) ?_ n4
        simp only [flatDs, flatD, fAd, fB, Bool.and_self]
      · rw [decide_eq_false (fun z => e3 (V.str.inj z))]
        have hmk : mkW d wr ad y qs = chX y qs := by
          unfold mkW
          rw [if_neg hno, if_neg (fun z => e3 (by have := z.2; rw [hcol] at this; exact (Prod.mk.inj (Option.some.inj this)).1))]
        rw [hmk] at q
        exact iteF ⟨v1, rfl, q H1 v1 s1 hv1⟩
    · rw [decide_eq_false e2]
      have hmk : mkW d wr ad y qs = chX y qs := by
        unfold mkW
        rw [if_neg hno, if_neg (fun z => e2 (hhw ▸ z.1))]
      rw [hmk] at q
      exact iteF ⟨v1, rfl, q H1 v1 s1 hv1⟩
  by_cases e1 : wd = "cell"
  · rw [decide_eq_true (congrArg V.str e1)]
    have he2 := he
    rw [ey, e1] at he2
    obtain ⟨m, t, z, x0, _, _, _, rfl, _⟩ := he2.cell_of
    cases hB with
    | @cons v1 _ _ _ g1 hB =>
    cases hB with
    | @cons v2 _ _ _ g2 hB =>
    cases hB with
    | @cons v3 _ _ _ g3 hB =>
    cases hB
    cases g1
    cases g3
    have hcol : colOf y = some (t, z) := by rw [ey, e1, col_cell]
    refine iteT ⟨.ref a, rfl, a, _, 1, .str t, rfl, rfl, hS, at1, .str d.1, rfl, rfl, _, rfl, ?_⟩
    by_cases e2 : t = d.1
    · rw [decide_eq_true (congrArg V.str e2)]
      refine iteT ⟨.ref a, rfl, a, _, 3, .str z, rfl, rfl, hS, at3, .str d.2, rfl, rfl, _, rfl, ?_⟩
      by_cases e3 : z = d.2
      · rw [decide_eq_true (congrArg V.str e3)]
        have hkl : qs.length = 1 := by rw [hlen, kidsW2, ey, e1, kids_cell]; rfl
        obtain ⟨q0, rfl⟩ := List.length_eq_one_iff.mp hkl
        cases hPA with
        | @cons u0 _ _ _ hu0 hPA =>
        cases hPA
        have hmk : mkW d wr ad y [q0] = .tuple [.str "at", q0, wr] := by
          unfold mkW
          rw [if_pos ⟨hhw.trans e1, by rw [hcol, e2, e3]⟩]
          rfl
        rw [hmk] at q
        have fq : flatD q0 = true := by
          rw [flatDs, Bool.and_eq_true] at hPF
          exact hPF.1
        refine iteT ⟨.ref p, rfl, p, [u0], 0, u0, rfl, rfl, hP, at0, vr, rfl, h1000 (show 3 ≤ 1000 by decide), fun b nb => ?_⟩
        refine q _ _ (same_upd nb) (new_tup (.cons (.str "at") (.cons hu0 (.cons hvr .nil))) ?_ nb)
        simp only [flatDs, flatD, fq, hfw, Bool.and_self]
      · rw [decide_eq_false (fun x => e3 (V.str.inj x))]
        exact iteF (tail fun h => e3 (by have := h.2; rw [hcol] at this; exact congrArg Prod.snd (Option.some.inj this)))
    · rw [decide_eq_false (fun x => e2 (V.str.inj x))]
      exact iteF (tail fun h => e2 (by have := h.2; rw [hcol] at this; exact congrArg Prod.fst (Option.some.inj this)))
  · rw [decide_eq_false (fun z => e1 (V.str.inj z))]
    exact iteF (tail fun h => e1 (hhw.symm.trans h.1))
end
end L41

set_option maxHeartbeats 1000000
namespace L41
open PySem PySem.Spec PyProof.Rows L2 GR WX TX RZ UA NdefX CLo LamX
/-- a let of the log -/
structure LeP (K : PySem.W.Frag) (H : Hp) (p : Addr) (v : V) (n lo : Int) (ms : List Int) (es : List Ent) (z : Str) (U : PyData) (zs : List Str) (m : Nat) : Prop where
  lg : LgD K H p ms es
  lo : LowM ms n lo
  msl : ms.length ≤ 6
  esl : es.length ≤ 30
  dp : Dp K H v (.tuple [.str "let", .str z, U])
  ev : Ex zs m U
  ok : NOks zs
  bv : (flatP m U).length ≤ 200000
theorem LeP.flat {K : PySem.W.Frag} {H : Hp} {p : Addr} {v : V} {n lo : Int} {ms : List Int} {es : List Ent} {z : Str} {U : PyData} {zs : List Str} {m : Nat} (h : LeP K H p v n lo ms es z U zs m) : flatDs [.str "let", .str z, U] = true := by
  simp only [flatDs, flatD, h.ev.flat, Bool.and_self]
theorem LeP.keep {K : PySem.W.Frag} {H H' : Hp} (k : KeepT H H') {p : Addr} {v : V} {n lo : Int} {ms : List Int} {es : List Ent} {z : Str} {U : PyData} {zs : List Str} {m : Nat} (h : LeP K H p v n lo ms es z U zs m) : LeP K H' p v n lo ms es z U zs m := by
  have f : flatD (.tuple [.str "let", .str z, U]) = true := by
    simp only [flatD]
    exact h.flat
  exact ⟨h.lg.keep k, h.lo, h.msl, h.esl, dp_keep k _ _ f h.dp, h.ev, h.ok, h.bv⟩
/-- what a step over the statement makes of a part -/
def LoP (K : PySem.W.Frag) (H : Hp) (p : Addr) (v : V) (n : Int) (mk : PyData → List PyData → PyData) : Prop :=
  (∃ lo ms es z U zs m, LeP K H p v n lo ms es z U zs m ∧ mk = mkG W2 (fL n (varW (lzOf lo n es) m U))) ∨
  (∃ lo ms es wd t c Pd U zs m, WrP K H p v n lo ms es wd t c Pd U zs m ∧ mk = mkW (t, c) (wrX wd t c (varW (lzOf lo n es) m (condX wd t Pd)) (varW (lzOf lo n es) m U)) (adX wd c (varW (lzOf lo n es) m (condX wd t Pd))))
theorem LoP.keep {K : PySem.W.Frag} {H H' : Hp} (k : KeepT H H') {p : Addr} {v : V} {n : Int} {mk : PyData → List PyData → PyData} (h : LoP K H p v n mk) : LoP K H' p v n mk := by
  rcases h with ⟨lo, ms, es, z, U, zs, m, h, e⟩ | ⟨lo, ms, es, wd, t, c, Pd, U, zs, m, h, e⟩
  · exact .inl ⟨lo, ms, es, z, U, zs, m, h.keep k, e⟩
  · exact .inr ⟨lo, ms, es, wd, t, c, Pd, U, zs, m, h.keep k, e⟩
theorem flat_wrX {wd t c : Str} {a b : PyData} (h : flatD a = true) (g : flatD b = true) : flatD (wrX wd t c a b) = true := by
  unfold wrX
  split <;> simp only [flatD, flatDs, h, g, keyD, Bool.and_self]
theorem flat_adX {wd c : Str} {a : PyData} (h : flatD a = true) : flatDs (adX wd c a) = true ∧ (adX wd c a).length ≤ 1 := by
  unfold adX
  split
  · exact ⟨by simp only [flatDs, h, Bool.and_self], Nat.le_refl _⟩
  · exact ⟨rfl, Nat.zero_le _⟩
section
variable {P : Program} {w : World} {K : PySem.W.Frag} {mg : Str → Option Value} {base : Heap}
def nmW : Nat → Nat → Str := fun _ _ => "led_over_writer.<locals>.made"
def sp_low (K : PySem.W.Frag) (T : List NTab) : Sp := fun vs H Q _ => ∃ (p : Addr) (vx v : V) (n lo : Int) (ms : List Int) (es : List Ent) (wd t c : Str) (Pd U : PyData) (zs : List Str) (m : Nat) (x : PyData) (zx : List Str) (k : Nat), vs = [.ref p, vx, .int n, v] ∧ Dp K H vx x ∧ Ex zx k x ∧ NOks zx ∧ (flatP k x).length ≤ 200000 ∧ WrP K H p v n lo ms es wd t c Pd U zs m ∧ TabsN T H ∧
  ∀ H' v', ExtN H H' → TabsN T H' → Dp K H' v' (foldE W2 (mkW (t, c) (wrX wd t c (varW (lzOf lo n es) m (condX wd t Pd)) (varW (lzOf lo n es) m U)) (adX wd c (varW (lzOf lo n es) m (condX wd t Pd)))) k x) → Q v' H'
theorem ok_led_over_writer {T : List NTab} {f ff c PT : Addr} {fd fdf : FuncData} {k : Nat} (F : FunC K "led_over_writer" "led_over_writer" s_led_over_writer f fd c) (TB : TabB base mg c PT) (hm : (PT, nmW) ∈ T) (hu : ∀ p ∈ T, p.1 = PT → p.2 = nmW)
    (Gf : ∀ d wr ad, flatD wr = true → flatDs ad = true → ad.length ≤ 1 → FnP P w K mg base k ff fdf ["expression", "wanted", "made"] (preC (isMade st_mW) fr_mW) (sp_folded K W2 (mkW d wr ad) (CapW K d wr ad))) (gf : mg "folded" = some (.ref ff)) (Kf : PySem.W.keepIn K (.ref ff) = true) (bf : Binds K fdf ["expression", "wanted", "made"] [])
    {aP : Addr} (mALL : mg "ALL_PARTS" = some (.ref aP)) (TA : ∀ H, SqT K H aP (W2.map V.str))
    {fl fc : Addr} {fdl fdc : FuncData} (Gl : FnOk P w K mg base CX0 k fl fdl ["log", "position", "statement"] (sp_ka K T)) (gl : mg "keys_added" = some (.ref fl)) (Kl : PySem.W.keepIn K (.ref fl) = true) (bl : Binds K fdl ["log", "position", "statement"] [])
    (Gc : FnOk P w K mg base CX0 k fc fdc ["statement"] (sp_col K)) (gc : mg "column_of" = some (.ref fc)) (Kc : PySem.W.keepIn K (.ref fc) = true) (bc : Binds K fdc ["statement"] [])
    {fb : Addr} {fdb : FuncData} (Gb : FnOk P w K mg base CX0 k fb fdb ["log", "position", "statement"] (sp_cb K T)) (gb : mg "cell_behind" = some (.ref fb)) (Kb : PySem.W.keepIn K (.ref fb) = true) (bb : Binds K fdb ["log", "position", "statement"] []) :
    FnOk P w K mg base CX0 (k + 1) f fd ["log", "expression", "position", "statement"] (sp_low K T) := by
  have nd := sc_led_over_writer.nd
  refine F.ok sc_led_over_writer (fun vs H Q E h => ?_) (fun A outer s H vs Q E hr h => ?_)
  · obtain ⟨p, vx, v, n, lo, ms, es, wd, t, c, Pd, U, zs, m, x, zx, k, rfl, _⟩ := h
    rfl
  obtain ⟨p, vx, v, n, lo, ms, es, wd, t, z, Pd, U, zs, m, x, zx, j, rfl, hdx, hex, hzx, hbx, hW, hT, q⟩ := h
  have hB : ndefB (defScope s_led_over_writer) (C8.fnScope st_mW) fr_mW = true := by decide +kernel
  have fC := flat_varW (lz := lzOf lo n es) hW.ec
  have fU := flat_varW (lz := lzOf lo n es) hW.ev
  have fwr := flat_wrX (wd := wd) (t := t) (c := z) fC fU
  obtain ⟨fad, lad⟩ := flat_adX (wd := wd) (c := z) fC
  refine ⟨_, (pss_cons (ps_asg (pe_call Gc hr (by rfl) gc Kc bc .nil pass0 (pa_cons (pv 3) pa_nil)) (pg_tup rfl (pgs_cons (pg_name (i := 7) nd rfl (Or.inr rfl)) (pgs_cons (pg_name (i := 6) nd rfl (Or.inr rfl)) pgs_nil))))
      (pss_cons (ps_set (i := 8) nd rfl (.inr rfl) (pe_call Gb hr (by rfl) gb Kb bb .nil pass0 (pa_cons (pv 0) (pa_cons (pv 2) (pa_cons (pv 3) pa_nil)))))
      (pss_cons (ps_set (i := 5) nd rfl (.inr rfl) (pe_call Gl hr (by rfl) gl Kl bl .nil pass0 (pa_cons (pv 0) (pa_cons (pv 2) (pa_cons (pv 3) pa_nil)))))
      (pss_cons (ps_ndefMS (st := st_mW) (T := T) (nm := nmW) (c := c) (P := PT) (name := "made") (i := 4) rfl TB rfl hm rfl hu (ndef_free hB) rfl rfl rfl nd rfl (.inl rfl) (.inl rfl))
      (pss_one (ps_ret (pe_callC (mk := mkOf st_mW (cxOf CX0 P w K mg base N_low "led_over_writer" (defScope s_led_over_writer) f (.ref c) A outer s H E).nox) (js := [5, 6, 7, 8]) (Gf (t, z) _ _ fwr fad lad) (fun c' => ⟨_, _, _, rfl⟩) (fun _ => rfl) (fun ok => Caps.made ok (ndef_free hB) (ndef_fr hB) rfl) (fun _ => rfl) hr (by rfl) gf Kf bf (pa_cons (pv 1) (pa_cons (pe_glob rfl mALL (v := .ref aP) rfl) (pa_cons (pv 4) pa_nil)))))))))), ?_⟩
  refine ⟨v, rfl, v, _, some (t, z), rfl, hW.dp, col_wr hW.wd, fun H1 r s1 ⟨b, hr0, hb⟩ => ?_⟩
  subst hr0
  have hb' : SqT K H1 b [.str t, .str z] := .inl (.inl hb)
  refine ⟨b, _, rfl, hb', rfl, _, _, rfl, _, _, rfl, rfl, ?_⟩
  have hW1 := hW.keep (KeepT.of s1)
  have hT1 : TabsN T H1 := fun p hp => (hT p hp).ext s1
  refine ⟨.ref p, rfl, .int n, rfl, v, rfl, p, v, n, lo, ms, es, wd, t, z, Pd, U, zs, m, rfl, hW1, hT1, fun H2 vr x2 hT2 hvr => ?_⟩
  have hW2 := hW1.keep (KeepT.ext x2)
  refine ⟨.ref p, rfl, .int n, rfl, v, rfl, p, v, n, lo, ms, es, wd, t, z, Pd, U, zs, m, rfl, hW2, hT2, fun H3 pa us x3 hT3 hpa hus => ?_⟩
  refine ⟨hT3, fun g c' H4 x4 _ hT4 _ hg hc => ?_⟩
  have x14 : ExtN H H4 := ((ExtN.of s1).trans (x2.trans x3)).trans x4
  have k14 := KeepT.ext x14
  refine ⟨vx, rfl, .ref g, rfl, g, c', hg, hc, vx, aP, x, zx, j, rfl, hex.kept k14 hdx, hex, hzx, TA H4, ⟨pa, us, vr, rfl, x4 _ _ hpa (fun _ z => by cases z), dp_keepAll (KeepT.ext x4) _ _ fad hus, dp_keep (KeepT.ext (x3.trans x4)) _ _ fwr hvr⟩, hbx, fun H5 v' s5 hr5 => q H5 v' ?_ ?_ hr5⟩
  · exact x14.trans (ExtN.of s5)
  · exact fun p hp => (hT4 p hp).ext s5
abbrev s_led_over : Stmt := topS 33
theorem sc_led_over : FnScope ["log", "expression", "position", "statement"] ["log", "expression", "position", "statement"] (defScope s_led_over) := ⟨rfl, rfl, rfl, by decide +kernel, rfl, by decide +kernel, by decide +kernel⟩
def sp_lo (K : PySem.W.Frag) (T : List NTab) : Sp := fun vs H Q _ => ∃ (p : Addr) (vx v : V) (n : Int) (mk : PyData → List PyData → PyData) (x : PyData) (zx : List Str) (k : Nat), vs = [.ref p, vx, .int n, v] ∧ Dp K H vx x ∧ Ex zx k x ∧ NOks zx ∧ (flatP k x).length ≤ 200000 ∧ LoP K H p v n mk ∧ TabsN T H ∧
  ∀ H' v', ExtN H H' → TabsN T H' → Dp K H' v' (foldE W2 mk k x) → Q v' H'
theorem ok_led_over {T : List NTab} {f fw fl fs : Addr} {fd fdw fdl fds : FuncData} {k : Nat} (F : Fun K "led_over" "led_over" s_led_over f fd)
    (Gw : FnOk P w K mg base CX0 k fw fdw ["log", "expression", "position", "statement"] (sp_low K T)) (gw : mg "led_over_writer" = some (.ref fw)) (Kw : PySem.W.keepIn K (.ref fw) = true) (bw : Binds K fdw ["log", "expression", "position", "statement"] [])
    (Gl : FnOk P w K mg base CX0 k fl fdl ["expression", "position", "other"] (sp_lol K T)) (gl : mg "led_over_let" = some (.ref fl)) (Kl : PySem.W.keepIn K (.ref fl) = true) (bl : Binds K fdl ["expression", "position", "other"] [])
    (Gs : FnOk P w K mg base CX0 k fs fds ["log", "position", "statement", "word"] (sp_slt K T)) (gs : mg "slot_led_to" = some (.ref fs)) (Ks : PySem.W.keepIn K (.ref fs) = true) (bs : Binds K fds ["log", "position", "statement", "word"] []) :
    FnOk P w K mg base CX0 (k + 1) f fd ["log", "expression", "position", "statement"] (sp_lo K T) := by
  refine F.ok sc_led_over (fun vs H Q E h => ?_) (fun cdv A outer s H vs Q E hr h => ?_)
  · obtain ⟨p, vx, v, n, mk, x, zx, k, rfl, _⟩ := h
    rfl
  obtain ⟨p, vx, v, n, mk, x, zx, j, rfl, hdx, hex, hzx, hbx, hLo, hT, q⟩ := h
  refine ⟨_, (pss_cons (ps_if (pt_cmpR op_eq (pe_ix ix_tup (pv 3) pe_int (fun _ _ => rfl)) pe_str (nomark _))
      (pss_one (ps_ret (pe_call Gl hr (by rfl) gl Kl bl .nil pass0 (pa_cons (pv 1) (pa_cons (pv 2) (pa_cons (pe_call Gs hr (by rfl) gs Ks bs .nil pass0 (pa_cons (pv 0) (pa_cons (pv 2) (pa_cons (pv 3) (pa_cons pe_str pa_nil))))) pa_nil))))))
      pss_nil)
      (pss_one (ps_ret (pe_call Gw hr (by rfl) gw Kw bw .nil pass0 (pa_cons (pv 0) (pa_cons (pv 1) (pa_cons (pv 2) (pa_cons (pv 3) pa_nil)))))))), ?_⟩
  rcases hLo with ⟨lo, ms, es, z, U, zs, m, hL, rfl⟩ | ⟨lo, ms, es, wd, t, c, Pd, U, zs, m, hW, rfl⟩
  · have hd := hL.dp
    cases hd with
    | @tup a _ _ hS hA =>
    have hd := hL.dp
    cases hA with
    | cons g0 hA =>
    cases g0
    refine ⟨.ref a, rfl, a, _, 0, .str "let", rfl, rfl, hS, at0, rfl, _, rfl, iteT ?_⟩
    refine ⟨vx, rfl, .int n, rfl, .ref p, rfl, .int n, rfl, .ref a, rfl, p, .ref a, n, lo, "let", ms, es, _, U, zs, m, rfl, hL.lg, hL.lo, hL.msl, hL.esl, hd, hL.flat, .inr (.inr ⟨by decide, by decide, [.str "let", .str z], rfl⟩), hL.ev, hL.ok, hL.bv, hT, fun H1 vo x1 hT1 hvo => ?_⟩
    refine ⟨vx, vo, n, _, x, zx, j, rfl, hex.kept (KeepT.ext x1) hdx, hex, hzx, hvo, flat_varW hL.ev, hbx, hT1, fun H2 v2 x2 hT2 hv2 => q H2 v2 (x1.trans x2) hT2 hv2⟩
  · have hd := hW.dp
    unfold wrD at hd
    cases hd with
    | @tup a _ _ hS hA =>
    cases hA with
    | cons g0 hA =>
    cases g0
    have e1 : wd ≠ "let" := fun e => by rcases hW.wd with h | h <;> rw [h] at e <;> exact absurd e (by decide)
    refine ⟨.ref a, rfl, a, _, 0, .str wd, rfl, rfl, hS, at0, rfl, _, rfl, ?_⟩
    rw [decide_eq_false (fun z => e1 (V.str.inj z))]
    exact iteF ⟨.ref p, rfl, vx, rfl, .int n, rfl, .ref a, rfl, p, vx, .ref a, n, lo, ms, es, wd, t, c, Pd, U, zs, m, x, zx, j, rfl, hdx, hex, hzx, hbx, hW, hT, q⟩
end
end L41

namespace L41
open PySem PySem.Spec PyProof.Rows L2 GR WX TX RZ UA NdefX CLo LamX
/-! ### the way back -/
/-- a statement that is never reached -/
def tFalse : TS := fun _ _ _ => False
theorem ps_never {X : L2.Cx} {st : Stmt} : PS X st tFalse := ⟨fun _ _ _ _ _ _ h => h.elim⟩
def fW (l s e r : V) (b : Bool) : List (Str × V) := [("through", l), ("statements", s), ("expression", e), ("reads", r), ("is_small", .bl b)]
theorem lk_eq {a : Str} {v : V} {es : List (Str × V)} : List.lookup a ((a, v) :: es) = some v := by
  rw [List.lookup_cons, show (a == a) = true from beq_self_eq_true a]
theorem lk_ne {k a : Str} {v : V} {es : List (Str × V)} (h : ¬ k = a) : List.lookup k ((a, v) :: es) = List.lookup k es := by
  rw [List.lookup_cons, show (k == a) = false from beq_eq_false_iff_ne.mpr h]
theorem pf_eq {a : Str} {v x : V} {es : List (Str × V)} : putF a v ((a, x) :: es) = (a, v) :: es := by
  unfold putF
  rw [if_pos rfl]
theorem pf_ne {k a : Str} {v x : V} {es : List (Str × V)} (h : ¬ a = k) : putF k v ((a, x) :: es) = (a, x) :: putF k v es := by
  rw [putF, if_neg h]
section
variable {l s e r : V} {b : Bool}
theorem fW_through : (fW l s e r b).lookup ("through" : Str) = some l := lk_eq
theorem fW_statements : (fW l s e r b).lookup ("statements" : Str) = some s := by
  unfold fW
  rw [lk_ne (by decide +kernel), lk_eq]
theorem fW_expression : (fW l s e r b).lookup ("expression" : Str) = some e := by
  unfold fW
  rw [lk_ne (by decide +kernel), lk_ne (by decide +kernel), lk_eq]
theorem fW_reads : (fW l s e r b).lookup ("reads" : Str) = some r := by
  unfold fW
  rw [lk_ne (by decide +kernel), lk_ne (by decide +kernel), lk_ne (by decide +kernel), lk_eq]
theorem fW_is_small : (fW l s e r b).lookup ("is_small" : Str) = some (.bl b) := by
  unfold fW
  rw [lk_ne (by decide +kernel), lk_ne (by decide +kernel), lk_ne (by decide +kernel), lk_ne (by decide +kernel), lk_eq]
theorem fW_no {m : Str} (h1 : ¬ m = "through") (h2 : ¬ m = "statements") (h3 : ¬ m = "expression") (h4 : ¬ m = "reads") (h5 : ¬ m = "is_small") : (fW l s e r b).lookup m = none := by
  unfold fW
  rw [lk_ne h1, lk_ne h2, lk_ne h3, lk_ne h4, lk_ne h5]
  rfl
theorem fW_putE {e' : V} : putF "expression" e' (fW l s e r b) = fW l s e' r b := by
  unfold fW
  rw [pf_ne (by decide +kernel), pf_ne (by decide +kernel), pf_eq]
theorem fW_putR {r' : V} : putF "reads" r' (fW l s e r b) = fW l s e r' b := by
  unfold fW
  rw [pf_ne (by decide +kernel), pf_ne (by decide +kernel), pf_ne (by decide +kernel), pf_eq]
theorem fW_putS {c : Bool} : putF "is_small" (.bl c) (fW l s e r b) = fW l s e r c := by
  unfold fW
  rw [pf_ne (by decide +kernel), pf_ne (by decide +kernel), pf_ne (by decide +kernel), pf_ne (by decide +kernel), pf_eq]
theorem fw1 : putF "through" l [] = [(("through" : Str), l)] := rfl
theorem fw2 : putF "statements" s [(("through" : Str), l)] = [(("through" : Str), l), ("statements", s)] := by
  rw [pf_ne (by decide +kernel)]
  rfl
theorem fw3 : putF "expression" e [(("through" : Str), l), ("statements", s)] = [(("through" : Str), l), ("statements", s), ("expression", e)] := by
  rw [pf_ne (by decide +kernel), pf_ne (by decide +kernel)]
  rfl
theorem fw4 : putF "reads" r [(("through" : Str), l), ("statements", s), ("expression", e)] = [(("through" : Str), l), ("statements", s), ("expression", e), ("reads", r)] := by
  rw [pf_ne (by decide +kernel), pf_ne (by decide +kernel), pf_ne (by decide +kernel)]
  rfl
theorem fw5 : putF "is_small" (.bl b) [(("through" : Str), l), ("statements", s), ("expression", e), ("reads", r)] = fW l s e r b := by
  rw [pf_ne (by decide +kernel), pf_ne (by decide +kernel), pf_ne (by decide +kernel), pf_ne (by decide +kernel)]
  rfl
end
/-- all but p is as it was, numbered tables aside -/
def KeepW (p : Addr) (H H' : Hp) : Prop := ∀ b o, b ≠ p → H b = some o → (∀ ps, o ≠ .tbl ps) → H' b = some o
theorem KeepW.refl {p : Addr} {H : Hp} : KeepW p H H := fun _ _ _ e _ => e
theorem KeepW.of {p : Addr} {H H' : Hp} (s : ExtN H H') : KeepW p H H' := fun b o _ e n => s b o e n
theorem KeepW.trans {p : Addr} {H H1 H2 : Hp} (a : KeepW p H H1) (b : KeepW p H1 H2) : KeepW p H H2 := fun x o h e n => b x o h (a x o h e n) n
theorem KeepW.upd {p : Addr} {H H' : Hp} {u : HO} (a : KeepW p H H') : KeepW p H (upd H' p u) := fun b o h e n => by
  rw [upd_ne h]
  exact a b o h e n
/-- what the class says -/
structure WC (K : PySem.W.Frag) (C : Addr) : Prop where
  cl : Cls K C
  n1 : NoAttr K C "through"
  n2 : NoAttr K C "statements"
  n3 : NoAttr K C "expression"
  n4 : NoAttr K C "reads"
  n5 : NoAttr K C "is_small"
theorem tabs_upd {T : List NTab} {H : Hp} {p C dx C' dx' : Addr} {fs fs' : List (Str × V)} (hp : H p = some (.ins C dx fs)) (h : TabsN T H) : TabsN T (upd H p (.ins C' dx' fs')) := fun q hq => by
  obtain ⟨ps, h1, h2, h3⟩ := h q hq
  refine ⟨ps, ?_, h2, fun pos cv hc => ?_⟩
  · rw [upd_ne (fun z => by rw [z, hp] at h1; cases h1)]
    exact h1
  · obtain ⟨c, e1, e2⟩ := h3 pos cv hc
    refine ⟨c, e1, ?_⟩
    rw [upd_ne (fun z => by rw [z, hp] at e2; cases e2)]
    exact e2
theorem keepT_upd {H : Hp} {p C dx C' dx' : Addr} {fs fs' : List (Str × V)} (hp : H p = some (.ins C dx fs)) : KeepT H (upd H p (.ins C' dx' fs')) :=
  ⟨fun b us e => by rw [upd_ne (fun z => by rw [z, hp] at e; cases e)]; exact e, fun b o us e => by rw [upd_ne (fun z => by rw [z, hp] at e; cases e)]; exact e⟩
abbrev sWay : Stmt := topS 30
abbrev s_winit : Stmt := inClass sWay 0
abbrev s_step_to : Stmt := inClass sWay 1
abbrev s_is_changed_by : Stmt := inClass sWay 2
/-- a way stands at p -/
structure WayAt (P : Program) (w : World) (K : PySem.W.Frag) (C : Addr) (H : Hp) (p lg : Addr) (es : List Ent) (vx : V) (x : PyData) (n : Nat) : Prop where
  at_ : ∃ dx d rD kvs La, H p = some (.ins C dx (fW (.ref lg) (.ref d) vx (.ref rD) false)) ∧ H d = some (.dK kvs) ∧ StmR K H kvs es ∧ H rD = some (RdO P w rD La) ∧ KeysH H La ∧ (∀ k, k ∈ La.map (·.1) ↔ Reads n x k) ∧ d ≠ p ∧ rD ≠ p
section
variable {P : Program} {w : World} {K : PySem.W.Frag} {mg : Str → Option Value} {base : Heap}
theorem sc_winit : FnScope ["self", "log", "expression"] ["self", "log", "expression"] (defScope s_winit) := ⟨rfl, rfl, rfl, by decide +kernel, rfl, by decide +kernel, by decide +kernel⟩
def sp_winit (P : Program) (w : World) (K : PySem.W.Frag) (C : Addr) (T : List NTab) : Sp := fun vs H Q _ => ∃ (p dx lg : Addr) (vx : V) (ms : List Int) (es : List Ent) (x : PyData) (zs : List Str) (n : Nat), vs = [.ref p, .ref lg, vx] ∧ H p = some (.ins C dx []) ∧ LgD K H lg ms es ∧ (es.map (·.1)).Nodup ∧ es.length ≤ 30 ∧ Dp K H vx x ∧ Ex zs n x ∧ (flatP n x).length ≤ 200000 ∧ zs.length ≤ 7 ∧ ("in" : Str) ∈ zs ∧ TabsN T H ∧
  ∀ H', KeepW p H H' → TabsN T H' → WayAt P w K C H' p lg es vx x n → Q .non H'
theorem ok_winit {T : List NTab} {f C : Addr} {fd : FuncData} {k : Nat} (F : Fun K "__init__" "Way.__init__" s_winit f fd) (WCl : WC K C)
    {fs fr : Addr} {fds fdr : FuncData} (Gs : FnOk P w K mg base CX0 k fs fds ["log"] (sp_sto K)) (gs : mg "statements_of" = some (.ref fs)) (Ks : PySem.W.keepIn K (.ref fs) = true) (bs : Binds K fds ["log"] [])
    (Gr : FnOk P w K mg base CX0 k fr fdr ["expression"] (sp_read P w K)) (gr : mg "read_by" = some (.ref fr)) (Kr : PySem.W.keepIn K (.ref fr) = true) (br : Binds K fdr ["expression"] []) :
    FnOk P w K mg base CX0 (k + 1) f fd ["self", "log", "expression"] (sp_winit P w K C T) := by
  refine F.ok sc_winit (fun vs H Q E h => ?_) (fun cdv A outer s H vs Q E hr h => ?_)
  · obtain ⟨p, dx, lg, vx, ms, es, x, zs, n, rfl, _⟩ := h
    rfl
  obtain ⟨p, dx, lg, vx, ms, es, x, zs, n, rfl, hp, hL, hnd, hes, hd, he, hb, h7, hi, hT, q⟩ := h
  refine ⟨_, pss_cons (ps_fld (pv 0) (pv 1) rfl) (pss_cons (ps_fld (pv 0) (pe_call Gs hr (by rfl) gs Ks bs .nil pass0 (pa_cons (pv 1) pa_nil)) rfl) (pss_cons (ps_fld (pv 0) (pv 2) rfl) (pss_cons (ps_fld (pv 0) (pe_call Gr hr (by rfl) gr Kr br .nil pass0 (pa_cons (pv 2) pa_nil)) rfl) (pss_one (ps_fld (pv 0) pe_bl rfl))))), ?_⟩
  have up : ∀ {H0 : Hp} {fs fs' : List (Str × V)}, H0 p = some (.ins C dx fs) → KeepT H0 (upd H0 p (.ins C dx fs')) ∧ (TabsN T H0 → TabsN T (upd H0 p (.ins C dx fs'))) ∧ upd H0 p (.ins C dx fs') p = some (.ins C dx fs') ∧ ∀ b o, b ≠ p → H0 b = some o → upd H0 p (.ins C dx fs') b = some o :=
    fun h => ⟨keepT_upd h, tabs_upd h, upd_same, fun b o nb e => by rw [upd_ne nb]; exact e⟩
  refine ⟨_, rfl, _, rfl, p, C, dx, [], rfl, hp, WCl.cl, WCl.n1, (by show 0 < 1000; decide), ?_⟩
  rw [fw1]
  obtain ⟨k1, t1, h1, w1⟩ := up (fs' := [(("through" : Str), V.ref lg)]) hp
  have t1 := t1 hT
  revert k1 t1 h1 w1
  generalize upd H p (.ins C dx [(("through" : Str), V.ref lg)]) = H1
  intro k1 h1 w1 t1
  refine ⟨.ref lg, rfl, lg, ms, es, rfl, hL.keep k1, hnd, hes, fun H2 d kvs s2 nd hd2 hst => ?_⟩
  have h2 := s2 _ _ h1
  have hdp : d ≠ p := fun z => by rw [z, h1] at nd; cases nd
  refine ⟨.ref p, rfl, p, C, dx, _, rfl, h2, WCl.cl, WCl.n2, (by show 1 < 1000; decide), ?_⟩
  rw [fw2]
  obtain ⟨k3, t3, h3, w3⟩ := up (fs' := [(("through" : Str), V.ref lg), ("statements", .ref d)]) h2
  have t3 := t3 (t1.ext s2)
  have hd3 := w3 _ _ hdp hd2
  have hst3 := hst.keep k3 hL.fl
  have k03 := (k1.trans (KeepT.of s2)).trans k3
  have w03 : ∀ b o, b ≠ p → H b = some o → _ := fun b o nb e => w3 b o nb (s2 _ _ (w1 b o nb e))
  revert k03 t3 h3 w03 hd3 hst3
  clear k3 w3
  generalize upd H2 p (.ins C dx [(("through" : Str), V.ref lg), ("statements", .ref d)]) = H3
  intro h3 t3 hd3 hst3 k03 w03
  refine ⟨vx, rfl, .ref p, rfl, p, C, dx, _, rfl, h3, WCl.cl, WCl.n3, (by show 2 < 1000; decide), ?_⟩
  rw [fw3]
  obtain ⟨k4, t4, h4, w4⟩ := up (fs' := [(("through" : Str), V.ref lg), ("statements", .ref d), ("expression", vx)]) h3
  have t4 := t4 t3
  have hd4 := w4 _ _ hdp hd3
  have hst4 := hst3.keep k4 hL.fl
  have k04 := k03.trans k4
  have w04 : ∀ b o, b ≠ p → H b = some o → _ := fun b o nb e => w4 b o nb (w03 b o nb e)
  revert k04 t4 h4 w04 hd4 hst4
  clear k4 w4
  generalize upd H3 p (.ins C dx [(("through" : Str), V.ref lg), ("statements", .ref d), ("expression", vx)]) = H4
  intro h4 t4 hd4 hst4 k04 w04
  refine ⟨vx, rfl, vx, x, zs, n, rfl, he.kept k04 hd, he, hb, h7, hi, fun H5 rD La s5 nr hr5 hk5 hrd => ?_⟩
  have h5 := s5 _ _ h4
  have hrp : rD ≠ p := fun z => by rw [z, h4] at nr; cases nr
  refine ⟨.ref p, rfl, p, C, dx, _, rfl, h5, WCl.cl, WCl.n4, (by show 3 < 1000; decide), ?_⟩
  rw [fw4]
  obtain ⟨k6, t6, h6, w6⟩ := up (fs' := [(("through" : Str), V.ref lg), ("statements", .ref d), ("expression", vx), ("reads", .ref rD)]) h5
  have t6 := t6 (t4.ext s5)
  refine ⟨.ref p, rfl, p, C, dx, _, rfl, h6, WCl.cl, WCl.n5, (by show 4 < 1000; decide), ?_⟩
  rw [fw5]
  obtain ⟨k7, t7, h7', w7⟩ := up (fs' := fW (.ref lg) (.ref d) vx (.ref rD) false) h6
  refine q _ (fun b o nb e _ => w7 b o nb (w6 b o nb (s5 _ _ (w04 b o nb e)))) (t7 t6) ⟨dx, d, rD, kvs, La, h7', w7 _ _ hdp (w6 _ _ hdp (s5 _ _ hd4)), ?_, w7 _ _ hrp (w6 _ _ hrp hr5), ?_, hrd, hdp, hrp⟩
  · exact ((hst4.keep (KeepT.of s5) hL.fl).keep k6 hL.fl).keep k7 hL.fl
  · refine hk5.keep fun b xs e => ?_
    have hb : b ≠ p := fun z => by rw [z, h5] at e; cases e
    exact w7 _ _ hb (w6 _ _ hb e)
theorem sc_is_changed_by : FnScope ["self", "place", "statement"] ["self", "place", "statement"] (defScope s_is_changed_by) := ⟨rfl, rfl, rfl, by decide +kernel, rfl, by decide +kernel, by decide +kernel⟩
/-- what a statement at a place touches -/
def KeyOf (y : PyData) (pl : Int) (k : RK) : Prop := (∃ r, y = .tuple (.str "let" :: r) ∧ k = .nm pl) ∨ ∃ c, ColS y c ∧ headW y ≠ "let" ∧ k = match c with
  | some d => .tp d
  | none => .no
def sp_changed (P : Program) (w : World) (K : PySem.W.Frag) (C : Addr) : Sp := fun vs H Q _ => ∃ (p lg dx d rD : Addr) (vx v : V) (pl : Int) (y : PyData) (k : RK) (La : RL) (b : Bool), vs = [.ref p, .int pl, v] ∧ H p = some (.ins C dx (fW (.ref lg) (.ref d) vx (.ref rD) b)) ∧ H rD = some (RdO P w rD La) ∧ KeysH H La ∧ Dp K H v y ∧ KeyOf y pl k ∧
  ∀ H', Same H H' → Q (.bl (decide (k ∈ La.map (·.1)))) H'
theorem ok_changed {f C : Addr} {fd : FuncData} {k : Nat} (F : Fun K "is_changed_by" "Way.is_changed_by" s_is_changed_by f fd) (WCl : WC K C)
    {fc : Addr} {fdc : FuncData} (Gc : FnOk P w K mg base CX0 k fc fdc ["statement"] (sp_col K)) (gc : mg "column_of" = some (.ref fc)) (Kc : PySem.W.keepIn K (.ref fc) = true) (bc : Binds K fdc ["statement"] []) :
    FnOk P w K mg base CX0 (k + 1) f fd ["self", "place", "statement"] (sp_changed P w K C) := by
  refine F.ok sc_is_changed_by (fun vs H Q E h => ?_) (fun cdv A outer s H vs Q E hr h => ?_)
  · obtain ⟨p, lg, dx, d, rD, vx, v, pl, y, k, La, b, rfl, _⟩ := h
    rfl
  obtain ⟨p, lg, dx, d, rD, vx, v, pl, y, k, La, b, rfl, hp, hrD, hkeys, hd, hk, q⟩ := h
  have hu1 := hu_of hr
  refine ⟨_, (pss_cons (ps_if (pt_cmpR op_eq (pe_ix ix_tup (pv 2) pe_int (fun _ _ => rfl)) pe_str (nomark _))
      (pss_one (ps_ret (pe_cmp (pc_kin hu1 (pv 1) (pe_fld (pv 0) rfl)))))
      pss_nil)
      (pss_one (ps_ret (pe_cmp (pc_kin hu1 (pe_call Gc hr (by rfl) gc Kc bc .nil pass0 (pa_cons (pv 2) pa_nil)) (pe_fld (pv 0) rfl)))))), ?_⟩
  rcases hk with ⟨r, rfl, rfl⟩ | ⟨c, hc, hne, rfl⟩
  · cases hd with
    | @tup a _ _ hS hA =>
    cases hA with
    | cons g0 hA =>
    cases g0
    refine ⟨.ref a, rfl, a, _, 0, .str "let", rfl, rfl, hS, at0, rfl, _, rfl, iteT ?_⟩
    exact ⟨.int pl, rfl, .ref p, rfl, p, C, dx, _, _, rfl, hp, WCl.cl, WCl.n4, fW_reads, rD, La, (RK.nm pl, 0), rfl, hrD, hkeys, rfl, q H fun _ _ e => e⟩
  · have hd0 := hd
    obtain ⟨wd, r, rfl, hcc⟩ := id hc
    cases hd with
    | @tup a _ _ hS hA =>
    cases hA with
    | cons g0 hA =>
    cases g0
    have e1 : wd ≠ "let" := hne
    refine ⟨.ref a, rfl, a, _, 0, .str wd, rfl, rfl, hS, at0, rfl, _, rfl, ?_⟩
    rw [decide_eq_false (fun z => e1 (V.str.inj z))]
    refine iteF ⟨.ref a, rfl, .ref a, _, c, rfl, hd0, hc, fun H1 r s1 hr1 => ?_⟩
    have hk1 := hkeys.keep fun b xs e => s1 _ _ e
    cases c with
    | some dd =>
      obtain ⟨b, rfl, hb⟩ := hr1
      exact ⟨.ref p, rfl, p, C, dx, _, _, rfl, s1 _ _ hp, WCl.cl, WCl.n4, fW_reads, rD, La, (RK.tp dd, b), rfl, s1 _ _ hrD, hk1, ⟨rfl, hb⟩, q H1 s1⟩
    | none =>
      cases hr1
      exact ⟨.ref p, rfl, p, C, dx, _, _, rfl, s1 _ _ hp, WCl.cl, WCl.n4, fW_reads, rD, La, (RK.no, 0), rfl, s1 _ _ hrD, hk1, rfl, q H1 s1⟩
end
end L41

namespace L41
open PySem PySem.Spec PyProof.Rows L2 GR WX TX RZ UA NdefX CLo LamX
section
variable {P : Program} {w : World} {K : PySem.W.Frag} {mg : Str → Option Value} {base : Heap}
abbrev N_sw : List Str := ["self", "place", "statement", "is_changed"]
theorem sc_step_to : FnScope N_sw ["self", "place"] (defScope s_step_to) := ⟨rfl, rfl, rfl, by decide +kernel, rfl, by decide +kernel, by decide +kernel⟩
/-- what one step makes of x -/
def DueP (K : PySem.W.Frag) (H : Hp) (lg : Addr) (es : List Ent) (pl : Int) (x : PyData) (n : Nat) (due : PyData) : Prop :=
  ((∀ e, e ∈ es → e.1 ≠ pl) ∧ due = x) ∨
  ∃ e k, e ∈ es ∧ e.1 = pl ∧ KeyOf e.2 pl k ∧ ((¬ Reads n x k ∧ due = x) ∨ (Reads n x k ∧ ∃ mk, (∀ H' v, KeepT H H' → Dp K H' v e.2 → LoP K H' lg v pl mk) ∧ due = foldE W2 mk n x))
theorem DueP.keep {K : PySem.W.Frag} {H H' : Hp} (kt : KeepT H H') {lg : Addr} {es : List Ent} {pl : Int} {x : PyData} {n : Nat} {due : PyData} (h : DueP K H lg es pl x n due) : DueP K H' lg es pl x n due := by
  rcases h with h | ⟨e, k, h1, h2, h3, h4⟩
  · exact .inl h
  · refine .inr ⟨e, k, h1, h2, h3, ?_⟩
    rcases h4 with h4 | ⟨h4, mk, h5, h6⟩
    · exact .inl h4
    · exact .inr ⟨h4, mk, fun H2 v k2 => h5 H2 v (kt.trans k2), h6⟩
theorem stm_val {K : PySem.W.Frag} {H : Hp} {pl : Int} : ∀ {kvs : List (Key × V)} {es : List Ent}, StmR K H kvs es → (valV kvs (.inl pl) = none ∧ ∀ e, e ∈ es → e.1 ≠ pl) ∨ ∃ v e, valV kvs (.inl pl) = some v ∧ e ∈ es ∧ e.1 = pl ∧ Dp K H v e.2
  | _, _, .nil => .inl ⟨rfl, fun e h => (nomatch h)⟩
  | _, _, .cons (a := a) (b := b) ⟨h1, h2⟩ t => by
    rw [valV_cons]
    by_cases c : b.1 = pl
    · rw [if_pos (by rw [h1, c])]
      exact .inr ⟨a.2, b, rfl, List.mem_cons_self, c, h2⟩
    · rw [if_neg (fun z => c (by rw [h1] at z; exact Sum.inl.inj z))]
      rcases stm_val t with ⟨g1, g2⟩ | ⟨v, e, g1, g2, g3, g4⟩
      · refine .inl ⟨g1, fun e he => ?_⟩
        rcases List.mem_cons.mp he with rfl | he
        · exact c
        · exact g2 e he
      · exact .inr ⟨v, e, g1, List.mem_cons_of_mem _ g2, g3, g4⟩
theorem same_ent : ∀ {es : List Ent}, (es.map (·.1)).Nodup → ∀ {a b : Ent}, a ∈ es → b ∈ es → a.1 = b.1 → a = b
  | [], _, _, _, h, _, _ => (nomatch h)
  | x :: es, hn, a, b, ha, hb, e => by
    rw [List.map_cons, List.nodup_cons] at hn
    rcases List.mem_cons.mp ha with rfl | ha' <;> rcases List.mem_cons.mp hb with rfl | hb'
    · rfl
    · exact absurd (by rw [e]; exact List.mem_map_of_mem (f := (·.1)) hb') hn.1
    · exact absurd (by rw [← e]; exact List.mem_map_of_mem (f := (·.1)) ha') hn.1
    · exact same_ent hn.2 ha' hb' e
def sp_step (P : Program) (w : World) (K : PySem.W.Frag) (C : Addr) (T : List NTab) : Sp := fun vs H Q _ => ∃ (p lg : Addr) (vx : V) (pl : Int) (es : List Ent) (x : PyData) (zs : List Str) (n : Nat) (due : PyData) (zd : List Str) (nd : Nat), vs = [.ref p, .int pl] ∧ WayAt P w K C H p lg es vx x n ∧ (es.map (·.1)).Nodup ∧ flatDs (es.map (·.2)) = true ∧ Dp K H vx x ∧ Ex zs n x ∧ NOks zs ∧ (flatP n x).length ≤ 200000 ∧ DueP K H lg es pl x n due ∧ Ex zd nd due ∧ (flatP nd due).length ≤ 2000 ∧ deepN nd [due] ≤ 100 ∧ zd.length ≤ 7 ∧ ("in" : Str) ∈ zd ∧ TabsN T H ∧
  ∀ H' v', KeepW p H H' → TabsN T H' → (∃ dx a b c e, H' p = some (.ins C dx (fW a b v' c e))) → Dp K H' v' due → Q .non H'
theorem ok_step {T : List NTab} {f C : Addr} {fd : FuncData} {k : Nat} (F : Fun K "step_to" "Way.step_to" s_step_to f fd) (WCl : WC K C)
    {fm : Addr} {fdm : FuncData} (Gm : FnOk P w K mg base CX0 k fm fdm ["self", "place", "statement"] (sp_changed P w K C)) (mm : Meth K C "is_changed_by" fm) (bm : Binds K fdm ["self", "place", "statement"] [])
    {fl : Addr} {fdl : FuncData} (Gl : FnOk P w K mg base CX0 k fl fdl ["log", "expression", "position", "statement"] (sp_lo K T)) (gl : mg "led_over" = some (.ref fl)) (Kl : PySem.W.keepIn K (.ref fl) = true) (bl : Binds K fdl ["log", "expression", "position", "statement"] [])
    {ft : Addr} {fdt : FuncData} (Gt : FnOk P w K mg base CX0 k ft fdt ["expression"] (sp_tl K)) (gt : mg "is_too_large" = some (.ref ft)) (Kt : PySem.W.keepIn K (.ref ft) = true) (bt : Binds K fdt ["expression"] [])
    {fr : Addr} {fdr : FuncData} (Gr : FnOk P w K mg base CX0 k fr fdr ["expression"] (sp_read P w K)) (gr : mg "read_by" = some (.ref fr)) (Kr : PySem.W.keepIn K (.ref fr) = true) (br : Binds K fdr ["expression"] []) :
    FnOk P w K mg base CX0 (k + 1) f fd ["self", "place"] (sp_step P w K C T) := by
  have nd := sc_step_to.nd
  refine F.ok sc_step_to (fun vs H Q E h => ?_) (fun cdv A outer s H vs Q E hr h => ?_)
  · obtain ⟨p, lg, vx, pl, es, x, zs, n, due, zd, nd, rfl, _⟩ := h
    rfl
  obtain ⟨p, lg, vx, pl, es, x, zs, n, due, zd, nn, rfl, ⟨dx, d, rD, kvs, La, hp, hd, hst, hrD, hkeys, hrd, hdp, hrp⟩, hnd, hfe, hdx, hex, hzx, hbx, hdue, hez, hbz, hdz, h7, hi, hT, q⟩ := h
  have hu1 := hu_of hr
  refine ⟨_, (pss_cons (ps_set (i := 2) nd rfl (.inl rfl) (pe_dget1 hu1 (pe_fld (pv 0) rfl) (pv 1) ⟨by rfl, by rfl, by rfl, by rfl⟩))
      (pss_cons (ps_set (i := 3) nd rfl (.inl rfl) (pe_and (pe_cmpR op_notN (pv 2) pe_non (nomark _)) (pe_one (pe_meth (pv 0) WCl.cl mm Gm hr bm .nil pass0 (pa_cons (pv 1) (pa_cons (pv 2) pa_nil))))))
      (pss_cons (ps_if (pt_val (pv 3))
        (pss_one (ps_fld (pv 0) (pe_call Gl hr (by rfl) gl Kl bl .nil pass0 (pa_cons (pe_fld (pv 0) rfl) (pa_cons (pe_fld (pv 0) rfl) (pa_cons (pv 1) (pa_cons (pv 2) pa_nil))))) rfl))
        pss_nil)
      (pss_cons (ps_if (PW.pt (pw_or (pt_val (pv 3)) (pw_or1 (pt_not (pt_val (pe_fld (pv 0) rfl))))))
        (pss_cons (ps_if (pt_val (pe_call Gt hr (by rfl) gt Kt bt .nil pass0 (pa_cons (pe_fld (pv 0) rfl) pa_nil)))
          (pss_one ps_never)
          pss_nil)
        (pss_one (ps_fld (pv 0) pe_bl rfl)))
        pss_nil)
      (pss_one (ps_if (pt_val (pv 3))
        (pss_one (ps_fld (pv 0) (pe_call Gr hr (by rfl) gr Kr br .nil pass0 (pa_cons (pe_fld (pv 0) rfl) pa_nil)) rfl))
        pss_nil)))))), ?_⟩
  have len : ∀ {a b c d : V} {e : Bool}, (fW a b c d e).length < 1000 := fun {a b c d e} => (by decide : 5 < 1000)
  -- unchanged
  have stay : due = x → ∀ (sv : V) (H1 : Hp), Same H H1 → sp_tl K [vx] H1 (fun y H2 => y = .bl false ∧ Same H1 H2) E0 ∧ H1 p = some (.ins C dx (fW (.ref lg) (.ref d) vx (.ref rD) false)) ∧
      ∀ H2, Same H1 H2 → Q .non (upd H2 p (.ins C dx (fW (.ref lg) (.ref d) vx (.ref rD) true))) := by
    intro e sv H1 s1
    refine ⟨⟨vx, due, zd, nn, rfl, ?_, hez, hbz, hdz, fun H2 s2 => ⟨rfl, s2⟩⟩, s1 _ _ hp, fun H2 s2 => ?_⟩
    · rw [e]
      exact hex.kept (KeepT.of s1) hdx
    · have s02 := s1.trans s2
      refine q _ vx (KeepW.of (ExtN.of s02)).upd (tabs_upd (s02 _ _ hp) (hT.ext s02)) ⟨dx, _, _, _, _, upd_same⟩ ?_
      rw [e]
      exact hex.kept ((KeepT.of s02).trans (keepT_upd (s02 _ _ hp))) hdx
  refine ⟨.ref p, rfl, p, C, dx, _, _, rfl, hp, WCl.cl, WCl.n2, fW_statements, d, rfl, .inl ⟨kvs, .inl hd⟩, .int pl, rfl, _, DGet.k (k := .inl pl) hd, ?_⟩
  rcases stm_val (pl := pl) hst with ⟨hv, hno⟩ | ⟨v, e, hv, he, hepl, hdv⟩
  · -- no statement there
    have ed : due = x := by
      rcases hdue with ⟨_, h⟩ | ⟨e, _, h1, h2, _⟩
      · exact h
      · exact absurd h2 (hno e h1)
    rw [hv]
    refine ⟨.non, rfl, rfl, _, rfl, iteF ?_⟩
    obtain ⟨⟨_, due', zd', nn', e1, g1, g2, g3, g4, _⟩, g6, g7⟩ := stay ed .non H (fun _ _ e => e)
    cases e1
    refine ⟨_, rfl, _, rfl, iteF ?_⟩
    refine ⟨_, rfl, _, rfl, iteF ⟨.ref p, rfl, p, C, dx, _, _, rfl, hp, WCl.cl, WCl.n5, fW_is_small, _, rfl, iteT ?_⟩⟩
    refine ⟨.ref p, rfl, p, C, dx, _, _, rfl, hp, WCl.cl, WCl.n3, fW_expression, vx, due', zd', nn', rfl, g1, g2, g3, g4, fun H2 s2 => ⟨_, rfl, iteF ⟨.ref p, rfl, p, C, dx, _, rfl, s2 _ _ hp, WCl.cl, WCl.n5, len, ?_⟩⟩⟩
    rw [fW_putS]
    exact ⟨_, rfl, _, rfl, iteF (g7 H2 s2)⟩
  · rw [hv]
    rcases hdue with ⟨h, _⟩ | ⟨e', k, h1, h2, hk, hcase⟩
    · exact absurd hepl (h e he)
    obtain rfl : e' = e := same_ent hnd h1 he (h2.trans hepl.symm)
    have hvr : ∃ a, v = .ref a := by
      rcases hk with ⟨r, e1, _⟩ | ⟨c, ⟨wd, r, e1, _⟩, _, _⟩
      · rw [e1] at hdv
        cases hdv
        exact ⟨_, rfl⟩
      · rw [e1] at hdv
        cases hdv
        exact ⟨_, rfl⟩
    obtain ⟨va, rfl⟩ := hvr
    refine ⟨.ref va, rfl, rfl, _, rfl, iteT ⟨.ref p, rfl, p, dx, _, rfl, hp, fW_no (by decide +kernel) (by decide +kernel) (by decide +kernel) (by decide +kernel) (by decide +kernel), .int pl, rfl, .ref va, rfl, p, lg, dx, d, rD, vx, .ref va, pl, e'.2, k, La, false, rfl, hp, hrD, hkeys, hdv, hk, fun H1 s1 => ?_⟩⟩
    rcases hcase with ⟨hR, ed⟩ | ⟨hR, mk, hmk, ed⟩
    · rw [decide_eq_false (fun z => hR ((hrd k).mp z))]
      obtain ⟨⟨_, due', zd', nn', e1, g1, g2, g3, g4, _⟩, g6, g7⟩ := stay ed .non H1 s1
      cases e1
      refine ⟨_, rfl, _, rfl, iteF ?_⟩
      refine ⟨_, rfl, _, rfl, iteF ⟨.ref p, rfl, p, C, dx, _, _, rfl, g6, WCl.cl, WCl.n5, fW_is_small, _, rfl, iteT ?_⟩⟩
      refine ⟨.ref p, rfl, p, C, dx, _, _, rfl, g6, WCl.cl, WCl.n3, fW_expression, vx, due', zd', nn', rfl, g1, g2, g3, g4, fun H2 s2 => ⟨_, rfl, iteF ⟨.ref p, rfl, p, C, dx, _, rfl, s2 _ _ g6, WCl.cl, WCl.n5, len, ?_⟩⟩⟩
      rw [fW_putS]
      exact ⟨_, rfl, _, rfl, iteF (g7 H2 s2)⟩
    · rw [decide_eq_true ((hrd k).mpr hR)]
      have hp1 := s1 _ _ hp
      have k1 := KeepT.of s1
      have hdv1 : Dp K H1 (.ref va) e'.2 := by
        refine dp_keep k1 _ _ ?_ hdv
        obtain ⟨i, hi⟩ := List.mem_iff_getElem?.mp he
        exact flatDs_at hfe (show (es.map (·.2))[i]? = some e'.2 by rw [List.getElem?_map, hi]; rfl)
      refine ⟨_, rfl, _, rfl, iteT ⟨.ref p, rfl, p, C, dx, _, _, rfl, hp1, WCl.cl, WCl.n1, fW_through, .ref p, rfl, p, C, dx, _, _, rfl, hp1, WCl.cl, WCl.n3, fW_expression, .int pl, rfl, .ref va, rfl, lg, vx, .ref va, pl, mk, x, zs, n, rfl, hex.kept k1 hdx, hex, hzx, hbx, hmk H1 _ k1 hdv1, hT.ext s1, fun H2 v2 x2 hT2 hv2 => ?_⟩⟩
      have hp2 := x2 _ _ hp1 (fun _ z => by cases z)
      refine ⟨.ref p, rfl, p, C, dx, _, rfl, hp2, WCl.cl, WCl.n3, len, ?_⟩
      rw [fW_putE]
      have k2 := keepT_upd (C' := C) (dx' := dx) (fs' := fW (.ref lg) (.ref d) v2 (.ref rD) false) hp2
      have t2 := tabs_upd (C' := C) (dx' := dx) (fs' := fW (.ref lg) (.ref d) v2 (.ref rD) false) hp2 hT2
      have h3 : upd H2 p (.ins C dx (fW (.ref lg) (.ref d) v2 (.ref rD) false)) p = _ := upd_same
      have w3 : KeepW p H (upd H2 p (.ins C dx (fW (.ref lg) (.ref d) v2 (.ref rD) false))) := (KeepW.of ((ExtN.of s1).trans x2)).upd
      have hv3 : Dp K (upd H2 p (.ins C dx (fW (.ref lg) (.ref d) v2 (.ref rD) false))) v2 due := by
        rw [ed]
        rw [ed] at hez
        exact hez.kept k2 hv2
      revert k2 t2 h3 w3 hv3
      generalize upd H2 p (.ins C dx (fW (.ref lg) (.ref d) v2 (.ref rD) false)) = H3
      intro k2 t2 h3 w3 hv3
      refine ⟨_, rfl, _, rfl, iteT ⟨.ref p, rfl, p, C, dx, _, _, rfl, h3, WCl.cl, WCl.n3, fW_expression, v2, due, zd, nn, rfl, hv3, hez, hbz, hdz, fun H4 s4 => ⟨_, rfl, iteF ⟨.ref p, rfl, p, C, dx, _, rfl, s4 _ _ h3, WCl.cl, WCl.n5, len, ?_⟩⟩⟩⟩
      rw [fW_putS]
      have h4 := s4 _ _ h3
      have k4 := keepT_upd (C' := C) (dx' := dx) (fs' := fW (.ref lg) (.ref d) v2 (.ref rD) true) h4
      have t4 := tabs_upd (C' := C) (dx' := dx) (fs' := fW (.ref lg) (.ref d) v2 (.ref rD) true) h4 (t2.ext s4)
      have h5 : upd H4 p (.ins C dx (fW (.ref lg) (.ref d) v2 (.ref rD) true)) p = _ := upd_same
      have w5 : KeepW p H (upd H4 p (.ins C dx (fW (.ref lg) (.ref d) v2 (.ref rD) true))) := (w3.trans (KeepW.of (ExtN.of s4))).upd
      have hv5 := hez.kept ((KeepT.of s4).trans k4) hv3
      revert k4 t4 h5 w5 hv5
      generalize upd H4 p (.ins C dx (fW (.ref lg) (.ref d) v2 (.ref rD) true)) = H5
      intro k4 t4 h5 w5 hv5
      refine ⟨_, rfl, _, rfl, iteT ⟨.ref p, rfl, p, C, dx, _, _, rfl, h5, WCl.cl, WCl.n3, fW_expression, v2, due, zd, nn, rfl, hv5, hez, by omega, h7, hi, fun H6 rN LN s6 _ _ _ _ => ⟨.ref p, rfl, p, C, dx, _, rfl, s6 _ _ h5, WCl.cl, WCl.n4, len, ?_⟩⟩⟩
      rw [fW_putR]
      have h6 := s6 _ _ h5
      exact q _ v2 (w5.trans (KeepW.of (ExtN.of s6))).upd (tabs_upd h6 (t4.ext s6)) ⟨dx, _, _, _, _, upd_same⟩ (hez.kept ((KeepT.of s6).trans (keepT_upd h6)) hv5)
abbrev s_led_back : Stmt := topS 29
abbrev N_lb : List Str := ["log", "expression", "position", "cut", "way", "place"]
theorem sc_led_back : FnScope N_lb ["log", "expression", "position", "cut"] (defScope s_led_back) := ⟨rfl, rfl, rfl, by decide +kernel, rfl, by decide +kernel, by decide +kernel⟩
/-- a log and an expression that is led back by one step -/
structure LedP (K : PySem.W.Frag) (T : List NTab) (H : Hp) (lg : Addr) (vx : V) (pl : Int) (ms : List Int) (es : List Ent) (x : PyData) (zs : List Str) (n : Nat) (due : PyData) (zd : List Str) (nd : Nat) : Prop where
  lgd : LgD K H lg ms es
  ndp : (es.map (·.1)).Nodup
  esl : es.length ≤ 30
  dp : Dp K H vx x
  ex : Ex zs n x
  ok : NOks zs
  b : (flatP n x).length ≤ 200000
  z7 : zs.length ≤ 7
  zi : ("in" : Str) ∈ zs
  duep : DueP K H lg es pl x n due
  ed : Ex zd nd due
  bd : (flatP nd due).length ≤ 2000
  dd : deepN nd [due] ≤ 100
  d7 : zd.length ≤ 7
  di : ("in" : Str) ∈ zd
  tabs : TabsN T H
  p0 : 0 ≤ pl
  p1 : pl ≤ 1000
def sp_lb (K : PySem.W.Frag) (T : List NTab) : Sp := fun vs H Q _ => ∃ (lg : Addr) (vx : V) (pl : Int) (ms : List Int) (es : List Ent) (x : PyData) (zs : List Str) (n : Nat) (due : PyData) (zd : List Str) (nd : Nat), vs = [.ref lg, vx, .int (pl + 1), .int pl] ∧ LedP K T H lg vx pl ms es x zs n due zd nd ∧
  ∀ H' v', ExtN H H' → TabsN T H' → Dp K H' v' due → Q v' H'
theorem ok_led_back {T : List NTab} {f C fi : Addr} {fd fdi : FuncData} {k : Nat} (F : Fun K "led_back" "led_back" s_led_back f fd) (WCl : WC K C) (M : Mk K C fi) (gC : mg "Way" = some (.ref C)) (GI : FnOk P w K mg base CX0 k fi fdi ["self", "log", "expression"] (sp_winit P w K C T)) (bI : Binds K fdi ["self", "log", "expression"] [])
    {fm : Addr} {fdm : FuncData} (Gm : FnOk P w K mg base CX0 (k + 1) fm fdm ["self", "place"] (sp_step P w K C T)) (mm : Meth K C "step_to" fm) (bm : Binds K fdm ["self", "place"] []) (mrange : mg "range" = none) (mreversed : mg "reversed" = none) :
    FnOk P w K mg base CX0 (k + 2) f fd ["log", "expression", "position", "cut"] (sp_lb K T) := by
  have nd := sc_led_back.nd
  refine F.ok sc_led_back (fun vs H Q E h => ?_) (fun cdv A outer s H vs Q E hr h => ?_)
  · obtain ⟨lg, vx, pl, ms, es, x, zs, n, due, zd, nd, rfl, _⟩ := h
    rfl
  obtain ⟨lg, vx, pl, ms, es, x, zs, n, due, zd, nn, rfl, L, q⟩ := h
  refine ⟨_, (pss_cons (ps_set (i := 4) nd rfl (.inl rfl) (pe_make M GI hr (by rfl) gC bI .nil pass0 (pa_cons (pv 0) (pa_cons (pv 1) pa_nil))))
      (pss_cons (ps_for PassesOwn.never rfl (pi_revR rfl mreversed (prg_2 rfl mrange (pv 3) (pv 2))) (pg_name (i := 5) nd rfl (Or.inl rfl))
      (pss_one (ps_expr (pe_meth (pv 4) WCl.cl mm Gm hr bm .nil pass0 (pa_cons (pv 5) pa_nil)))))
      (pss_one (ps_ret (pe_fld (pv 4) rfl))))), ?_⟩
  refine ⟨.ref lg, rfl, vx, rfl, fun p dx np ndx hne => ?_⟩
  have sN : Same H (upd (upd H dx (.own p)) p (.ins C dx [])) := fun b o e => by
    rw [upd_ne (ne_of_none e np), upd_ne (ne_of_none e ndx)]
    exact e
  have hp : upd (upd H dx (.own p)) p (.ins C dx []) p = _ := upd_same
  revert sN hp
  generalize upd (upd H dx (.own p)) p (.ins C dx []) = H1
  intro sN hp
  have k1 := KeepT.of sN
  refine ⟨p, dx, lg, vx, ms, es, x, zs, n, rfl, hp, L.lgd.keep k1, L.ndp, L.esl, L.ex.kept k1 L.dp, L.ex, L.b, L.z7, L.zi, L.tabs.ext sN, fun H2 w2 t2 W => ⟨rfl, ?_⟩⟩
  have k2 : KeepT H H2 := ⟨fun b us e => w2 b _ (ne_of_none e np) (sN _ _ e) (fun _ z => by cases z), fun b o us e => w2 b _ (ne_of_none e np) (sN _ _ e) (fun _ z => by cases z)⟩
  have x2 : ExtN H H2 := fun b o e nt => w2 b o (ne_of_none e np) (sN _ _ e) nt
  refine ⟨.int pl, rfl, .int (pl + 1), rfl, pl, pl + 1, rfl, rfl, by have := L.p0; omega, by have := L.p1; omega, by have := L.p0; omega, by have := L.p1; omega, ?_⟩
  have h1 : (pl + 1 - pl).toNat = 1 := by omega
  rw [h1]
  refine for_rangeC (n := 1) (fun i σ H' => (i = 0 ∧ H' = H2 ∧ σ = [some (.ref lg), some vx, some (.int (pl + 1)), some (.int pl), some (.ref p), none]) ∨ (i = 1 ∧ ∃ (y : Option V) (v' : V) (dx : Addr) (a b c : V) (e : Bool), σ = [some (.ref lg), some vx, some (.int (pl + 1)), some (.int pl), some (.ref p), y] ∧ KeepW p H2 H' ∧ TabsN T H' ∧ H' p = some (.ins C dx (fW a b v' c e)) ∧ Dp K H' v' due)) ?_ ?_ ?_
  · exact .inl ⟨rfl, rfl, rfl⟩
  · rintro i σ H' hi (⟨rfl, rfl, rfl⟩ | ⟨rfl, _⟩)
    · have e1 : pl + ((1 : Nat) : Int) - 1 + ((0 : Nat) : Int) * (-1) = pl := by omega
      rw [e1]
      obtain ⟨dx2, _, _, _, _, hp2, _⟩ := id W.at_
      refine ⟨.ref p, rfl, p, dx2, _, rfl, hp2, fW_no (by decide +kernel) (by decide +kernel) (by decide +kernel) (by decide +kernel) (by decide +kernel), .int pl, rfl, p, lg, vx, pl, es, x, zs, n, due, zd, nn, rfl, W, L.ndp, L.lgd.fl, L.ex.kept k2 L.dp, L.ex, L.ok, L.b, L.duep.keep k2, L.ed, L.bd, L.dd, L.d7, L.di, t2, fun H3 v3 w3 t3 ⟨dx3, a, b, c, e, hp3⟩ hv3 => ?_⟩
      exact .inr ⟨rfl, _, v3, dx3, a, b, c, e, rfl, w3, t3, hp3, hv3⟩
    · omega
  · rintro σ H' (⟨h, _⟩ | ⟨_, y, v', dx3, a, b, c, e, rfl, w3, t3, hp3, hv3⟩)
    · omega
    · exact ⟨.ref p, rfl, p, C, dx3, _, _, rfl, hp3, WCl.cl, WCl.n3, fW_expression, q H' v' (fun b o e nt => w3 b o (ne_of_none e np) (x2 b o e nt) nt) t3 hv3⟩
abbrev s_led : Stmt := topS 28
theorem sc_led : FnScope ["log", "expression", "position"] ["log", "expression", "position"] (defScope s_led) := ⟨rfl, rfl, rfl, by decide +kernel, rfl, by decide +kernel, by decide +kernel⟩
def sp_led (K : PySem.W.Frag) (T : List NTab) : Sp := fun vs H Q _ => ∃ (lg : Addr) (vx : V) (pl : Int) (ms : List Int) (es : List Ent) (x : PyData) (zs : List Str) (n : Nat) (due : PyData) (zd : List Str) (nd : Nat), vs = [.ref lg, vx, .int (pl + 1)] ∧ LedP K T H lg vx pl ms es x zs n due zd nd ∧
  ∀ H' v', ExtN H H' → TabsN T H' → Dp K H' v' due → Q v' H'
theorem ok_led {T : List NTab} {f fb : Addr} {fd fdb : FuncData} {k : Nat} (F : Fun K "led" "led" s_led f fd) (Gb : FnOk P w K mg base CX0 k fb fdb ["log", "expression", "position", "cut"] (sp_lb K T)) (gb : mg "led_back" = some (.ref fb)) (Kb : PySem.W.keepIn K (.ref fb) = true) (bb : Binds K fdb ["log", "expression", "position", "cut"] []) :
    FnOk P w K mg base CX0 (k + 1) f fd ["log", "expression", "position"] (sp_led K T) := by
  refine F.ok sc_led (fun vs H Q E h => ?_) (fun cdv A outer s H vs Q E hr h => ?_)
  · obtain ⟨lg, vx, pl, ms, es, x, zs, n, due, zd, nd, rfl, _⟩ := h
    rfl
  obtain ⟨lg, vx, pl, ms, es, x, zs, n, due, zd, nn, rfl, L, q⟩ := h
  refine ⟨_, (pss_one (ps_ret (pe_call Gb hr (by rfl) gb Kb bb .nil pass0 (pa_cons (pv 0) (pa_cons (pv 1) (pa_cons (pv 2) (pa_cons (pe_op op_sub (pv 2) pe_int) pa_nil))))))), ?_⟩
  have e : pl + 1 - 1 = pl := by omega
  refine ⟨.ref lg, rfl, vx, rfl, .int (pl + 1), rfl, .int (pl + 1), rfl, pl + 1, 1, rfl, rfl, ?_⟩
  show sp_lb K T [.ref lg, vx, .int (pl + 1), .int (pl + 1 - 1)] H Q E0
  rw [e]
  exact ⟨lg, vx, pl, ms, es, x, zs, n, due, zd, nn, rfl, L, q⟩
end
end L41

namespace L41
open PySem PySem.Spec PyProof.Rows L2 GR WX TX UA RZ
/-! ### the law's own reckoning of sizes -/
def mx (l : List Nat) : Nat := l.foldr max 0
theorem mx_append (l m : List Nat) : mx (l ++ m) = max (mx l) (mx m) := by
  induction l with
  | nil => exact (Nat.zero_max _).symm
  | cons a l ih =>
    show max a (mx (l ++ m)) = max (max a (mx l)) (mx m)
    rw [ih, Nat.max_assoc]
theorem mx_add (c : Nat) {α : Type} (f : α → Nat) : ∀ l : List α, max c (mx (l.map fun x => c + f x)) = c + mx (l.map f)
  | [] => Nat.max_zero c
  | x :: l => by
    have ih := mx_add c f l
    show max c (max (c + f x) (mx (l.map fun x => c + f x))) = c + max (f x) (mx (l.map f))
    omega
/-- how deep -/
def dpt : Nat → PyData → Nat
  | 0, _ => 0
  | n + 1, x => 1 + mx ((kids x).map (dpt n))
theorem mx_down {f : PyData → Nat} : ∀ l : List PyData, l ≠ [] → mx (l.map fun x => 1 + mx ((kids x).map f)) = 1 + mx ((down l).map f)
  | [], h => absurd rfl h
  | [x], _ => by
    show max (1 + mx ((kids x).map f)) 0 = 1 + mx ((kids x ++ []).map f)
    rw [List.append_nil, Nat.max_zero]
  | x :: y :: l, _ => by
    have ih := mx_down (f := f) (y :: l) (List.cons_ne_nil _ _)
    have e : down (x :: y :: l) = kids x ++ down (y :: l) := by
      unfold down
      rw [List.flatMap_cons]
    show max (1 + mx ((kids x).map f)) (mx ((y :: l).map fun x => 1 + mx ((kids x).map f))) = _
    rw [ih, e, List.map_append, mx_append]
    omega
theorem deepN_mx : ∀ (n : Nat) (l : List PyData), deepN n l = mx (l.map (dpt n))
  | 0, l => by
    show 0 = _
    induction l with
    | nil => rfl
    | cons x l ih =>
      show 0 = max 0 (mx (l.map (dpt 0)))
      rw [← ih]
      rfl
  | n + 1, [] => rfl
  | n + 1, x :: l => by
    show 1 + deepN n (down (x :: l)) = mx ((x :: l).map fun x => 1 + mx ((kids x).map (dpt n)))
    rw [mx_down _ (List.cons_ne_nil _ _), deepN_mx n]
theorem deepN_one (n : Nat) (x : PyData) : deepN n [x] = dpt n x := by
  rw [deepN_mx]
  exact Nat.max_zero _
abbrev leafV : List Str := ["int", "key", "let", "var"]
/-- one with a word of another kind holds all that stands behind it -/
theorem ex_rest_of {zs : List Str} {n : Nat} {o : Str} {rest : List PyData} (h : Ex zs n (.tuple (.str o :: rest))) (h1 : o ∉ aggW) (h2 : o ≠ "cell") : (o ∈ leafV ∧ kids (.tuple (.str o :: rest)) = []) ∨ (o ∉ leafV ∧ kids (.tuple (.str o :: rest)) = rest ∧ rest ≠ [] ∧ rest.length ≤ 3) := by
  generalize hx : PyData.tuple (.str o :: rest) = x at h
  cases h with
  | leaf n x h =>
    refine .inl ⟨?_, kids_leaf h⟩
    cases h <;> cases hx <;> decide
  | cell n t v x h1 h2' h3 =>
    cases hx
    exact absurd rfl h2
  | op n o' x y h1 h2 h3 =>
    cases hx
    refine .inr ⟨?_, kids_op h1, List.cons_ne_nil _ _, by simp only [List.length_cons, List.length_nil]; decide⟩
    simp only [opws, List.mem_cons, List.not_mem_nil, or_false] at h1
    rcases h1 with rfl | rfl | rfl | rfl | rfl | rfl <;> decide
  | iff n x y z h1 h2 h3 =>
    cases hx
    exact .inr ⟨by decide, kids_if, List.cons_ne_nil _ _, by simp only [List.length_cons, List.length_nil]; decide⟩
  | agg n o' t xs ys h1' h2 h3 h4 h5 =>
    cases hx
    exact absurd (aggs_w h1').1 h1
theorem cell_leaf : ("cell" : Str) ∉ leafV := by decide
section
variable {P : Program} {w : World} {K : PySem.W.Frag} {mg : Str → Option Value} {base : Heap}
abbrev s_law_inner : Stmt := topS 57
theorem sc_law_inner : FnScope ["_law_thing"] ["_law_thing"] (defScope s_law_inner) := ⟨rfl, rfl, rfl, by decide +kernel, rfl, by decide +kernel, by decide +kernel⟩
def sp_inner (K : PySem.W.Frag) : Sp := fun vs H Q _ => ∃ (v : V) (x : PyData) (zs : List Str) (n : Nat), vs = [v] ∧ Dp K H v x ∧ Ex zs n x ∧ ∀ H' p us, Same H H' → H p = none → H' p = some (.lst us) → DpAll K H' us (kids x) → Q (.ref p) H'
theorem ok_inner {f : Addr} {fd : FuncData} {k : Nat} (F : Fun K "_law_inner" "_law_inner" s_law_inner f fd) (mlist : mg "list" = none) : FnOk P w K mg base CX0 (k + 1) f fd ["_law_thing"] (sp_inner K) := by
  refine F.ok sc_law_inner (fun vs H Q E h => ?_) (fun cdv A outer s H vs Q E hr h => ?_)
  · obtain ⟨v, x, zs, n, rfl, _⟩ := h
    rfl
  obtain ⟨v, x, zs, n, rfl, hd, he, q⟩ := h
  refine ⟨_, (pss_cons (ps_if (pt_cmpR op_in_seq (pe_ix ix_tup (pv 0) pe_int (fun _ _ => rfl)) (pe_tup (pa_cons pe_str (pa_cons pe_str (pa_cons pe_str (pa_cons pe_str pa_nil))))) (by rfl))
      (pss_one (ps_ret (pe_lst pa_nil)))
      pss_nil)
      (pss_cons (ps_if (pt_cmpR op_eq (pe_ix ix_tup (pv 0) pe_int (fun _ _ => rfl)) pe_str (nomark _))
      (pss_one (ps_ret (pe_lst (pa_cons (pe_ix ix_tup (pv 0) pe_int (fun _ _ => rfl)) pa_nil))))
      pss_nil)
      (pss_cons (ps_if (pt_cmpR op_in_seq (pe_ix ix_tup (pv 0) pe_int (fun _ _ => rfl)) (pe_tup (pa_cons pe_str (pa_cons pe_str (pa_cons pe_str (pa_cons pe_str pa_nil))))) (by rfl))
      (pss_one (ps_ret (pe_op op_cat (pe_callTy call_list_of (by rfl) mlist boot_list (pa_cons (pe_ix ix_tup (pv 0) pe_int (fun _ _ => rfl)) pa_nil)) (pe_callTy call_list_of (by rfl) mlist boot_list (pa_cons (pe_slice L2.sl_tup (pv 0) (po_some pe_int) po_none) pa_nil)))))
      pss_nil)
      (pss_one (ps_ret (pe_callTy call_list_of (by rfl) mlist boot_list (pa_cons (pe_slice L2.sl_tup (pv 0) (po_some pe_int) po_none) pa_nil))))))), ?_⟩
  obtain ⟨wd, fs, rest, rfl, _, _⟩ := he.form
  have hfl := he.flat
  rw [flatD, flatDs, Bool.and_eq_true] at hfl
  have hfl2 := hfl.2
  cases hd with
  | @tup a _ _ hS hA =>
  cases hA with
  | @cons _ vs0 _ _ hw hA =>
  cases hw
  have l0 := dpAll_len hA
  refine ⟨.ref a, rfl, a, _, 0, .str wd, rfl, rfl, hS, at0, small_le (show 4 ≤ 1000 by decide), fun p2 np2 => ?_⟩
  have s2 := same_upd (o := .tup [.str "int", .str "key", .str "let", .str "var"]) np2
  have hp2 : SqT K (upd H p2 (.tup [.str "int", .str "key", .str "let", .str "var"])) p2 (leafV.map V.str) := .inl (.inl upd_same)
  refine ⟨p2, leafV.map V.str, rfl, .inr hp2, rfl, flat_strs leafV, _, rfl, ?_⟩
  rw [wanted_in]
  clear hp2
  revert s2
  generalize upd H p2 (.tup [.str "int", .str "key", .str "let", .str "var"]) = H2
  intro s2
  have hS2 := (KeepT.of s2).seqt hS
  have hA2 := dp_keepAll (KeepT.of s2) _ _ hfl2 hA
  by_cases e2 : wd = "cell"
  · subst e2
    rw [decide_eq_false cell_leaf]
    obtain ⟨m, t, z, x0, _, ht, hz, rfl, hx0⟩ := he.cell_of
    cases hA2 with
    | @cons v1 vs1 d1 ds1 g1 hA2 =>
    cases hA2 with
    | @cons v2 vs2 d2 ds2 g2 hA2 =>
    refine iteF ⟨.ref a, rfl, a, _, 0, .str "cell", rfl, rfl, hS2, at0, rfl, _, rfl, iteT ⟨.ref a, rfl, a, _, 2, v2, rfl, rfl, hS2, at2, small_le (show 1 ≤ 1000 by decide), fun l nl => ?_⟩⟩
    have s3 := same_upd (o := .lst [v2]) nl
    refine q _ l [v2] (s2.trans s3) (s2.free nl) upd_same ?_
    rw [kids_cell]
    exact .cons (dp_keep (KeepT.of s3) _ _ hx0.flat g2) .nil
  by_cases e1 : wd ∈ aggW
  · have hlf : wd ∉ leafV := fun z => by
      simp only [List.mem_cons, List.not_mem_nil, or_false] at z
      rcases z with rfl | rfl | rfl | rfl <;> exact absurd e1 (by decide)
    rw [decide_eq_false hlf]
    refine iteF ⟨.ref a, rfl, a, _, 0, .str wd, rfl, rfl, hS2, at0, rfl, _, rfl, ?_⟩
    rw [decide_eq_false (fun z => e2 (V.str.inj z))]
    refine iteF ⟨.ref a, rfl, a, _, 0, .str wd, rfl, rfl, hS2, at0, small_le (show 4 ≤ 1000 by decide), fun p3 np3 => ?_⟩
    have s3 := same_upd (o := .tup [.str "count", .str "sum", .str "most", .str "first"]) np3
    have hp3 : SqT K (upd H2 p3 (.tup [.str "count", .str "sum", .str "most", .str "first"])) p3 (aggW.map V.str) := .inl (.inl upd_same)
    refine ⟨p3, aggW.map V.str, rfl, .inr hp3, rfl, flat_strs aggW, _, rfl, ?_⟩
    rw [wanted_in, decide_eq_true e1]
    clear hp3
    revert s3
    generalize upd H2 p3 (.tup [.str "count", .str "sum", .str "most", .str "first"]) = H3
    intro s3
    have hS3 := (KeepT.of s3).seqt hS2
    have hA3 := dp_keepAll (KeepT.of s3) _ _ hfl2 hA2
    obtain ⟨m, t, xs, y, ys, _, rfl, ht, ho, hx2, hxs, hy, hys⟩ := he.agg_of e1
    cases hA3 with
    | @cons v1 vs1 d1 ds1 g1 hA3 =>
    cases hA3 with
    | @cons v2 vs2 d2 ds2 g2 hA3 =>
    cases g2 with
    | @tup b us _ hb hB =>
    have lb := dpAll_len hB
    have ly := dpAll_len hA3
    have hk : kids (.tuple (.str wd :: .str t :: .tuple xs :: y :: ys)) = xs ++ (y :: ys) := kids_agg (by rw [List.length_cons]; exact ho)
    rw [hk] at q
    simp only [flatDs, flatD, Bool.and_eq_true] at hfl2
    have fxs : flatDs xs = true := hfl2.2.1
    have fys : flatDs (y :: ys) = true := by
      rw [flatDs, hfl2.2.2.1, hfl2.2.2.2]
      rfl
    have ys4 : ys.length + 1 ≤ 4 := by
      have : ∀ p, p ∈ aggs → p.2 ≤ 4 := by decide
      exact this _ ho
    rw [List.length_cons] at ly
    refine iteT ⟨.ref a, rfl, a, _, 2, .ref b, rfl, rfl, hS3, at2, b, us, rfl, .inr hb, fun l1 nl1 => ?_⟩
    have s4 := same_upd (o := .lst us) nl1
    have hl1 : upd H3 l1 (.lst us) l1 = some (.lst us) := upd_same
    revert s4 hl1
    generalize upd H3 l1 (.lst us) = H4
    intro s4 hl1
    refine ⟨.ref a, rfl, 3, rfl, a, _, rfl, (KeepT.of s4).seqt hS3, ?_, fun c nc => ?_⟩
    · rintro ⟨e, _⟩
      have : HT.sIx (V.str wd :: v1 :: V.ref b :: vs2).length 0 (some 3) = min 3 (V.str wd :: v1 :: V.ref b :: vs2).length := HT.sIx_nat _ _ 3
      rw [this] at e
      simp only [List.length_cons] at e
      omega
    have hlen : (V.str wd :: v1 :: V.ref b :: vs2).length = vs2.length + 3 := by simp only [List.length_cons]
    have cut : cutV (V.str wd :: v1 :: V.ref b :: vs2) (some 3) none = vs2 := by
      unfold cutV
      rw [HT.sIx_none, show HT.sIx (V.str wd :: v1 :: V.ref b :: vs2).length 0 (some 3) = 3 from (HT.sIx_nat _ _ 3).trans (by rw [hlen]; omega), hlen]
      show vs2.take _ = _
      exact List.take_of_length_le (by omega)
    rw [cut]
    have s5 := same_upd (o := .tup vs2) nc
    refine ⟨c, vs2, rfl, .inr (.inl (.inl upd_same)), fun l2 nl2 => ?_⟩
    have s6 := same_upd (o := .lst vs2) nl2
    have s46 := s4.trans (s5.trans s6)
    refine ⟨l1, l2, us, vs2, rfl, rfl, s6 _ _ (s5 _ _ hl1), upd_same, h1000 (by omega), fun l nl => ?_⟩
    have s7 := same_upd (o := .lst (us ++ vs2)) nl
    have s27 := s2.trans (s3.trans s46)
    refine q _ l _ (s27.trans s7) (s27.free nl) upd_same (dpAll_app (dp_keepAll (KeepT.of (s46.trans s7)) _ _ fxs hB) (dp_keepAll (KeepT.of (s46.trans s7)) _ _ fys hA3))
  · rcases ex_rest_of he e1 e2 with ⟨h1, h2⟩ | ⟨h1, h2, h3, h4⟩
    · rw [decide_eq_true h1]
      refine iteT ⟨Nat.zero_le _, fun l nl => ?_⟩
      have s3 := same_upd (o := .lst []) nl
      refine q _ l [] (s2.trans s3) (s2.free nl) upd_same ?_
      rw [h2]
      exact .nil
    · rw [decide_eq_false h1]
      refine iteF ⟨.ref a, rfl, a, _, 0, .str wd, rfl, rfl, hS2, at0, rfl, _, rfl, ?_⟩
      rw [decide_eq_false (fun z => e2 (V.str.inj z))]
      refine iteF ⟨.ref a, rfl, a, _, 0, .str wd, rfl, rfl, hS2, at0, small_le (show 4 ≤ 1000 by decide), fun p3 np3 => ?_⟩
      have s3 := same_upd (o := .tup [.str "count", .str "sum", .str "most", .str "first"]) np3
      have hp3 : SqT K (upd H2 p3 (.tup [.str "count", .str "sum", .str "most", .str "first"])) p3 (aggW.map V.str) := .inl (.inl upd_same)
      refine ⟨p3, aggW.map V.str, rfl, .inr hp3, rfl, flat_strs aggW, _, rfl, ?_⟩
      rw [wanted_in, decide_eq_false e1]
      have hS3 := (KeepT.of s3).seqt hS2
      have hlen : (V.str wd :: vs0).length = vs0.length + 1 := List.length_cons ..
      have hp : 0 < vs0.length := by
        rw [l0]
        exact List.length_pos_iff.mpr h3
      have i1 : HT.sIx (V.str wd :: vs0).length 0 (some 1) = 1 := (HT.sIx_nat _ _ 1).trans (by rw [hlen]; omega)
      have cut : cutV (V.str wd :: vs0) (some 1) none = vs0 := by
        unfold cutV
        rw [HT.sIx_none, i1, hlen]
        show vs0.take _ = _
        exact List.take_of_length_le (by omega)
      refine iteF ⟨.ref a, rfl, 1, rfl, a, _, rfl, hS3, fun e => ?_, fun c nc => ?_⟩
      · rw [i1] at e
        exact absurd e.1 (by decide)
      rw [cut]
      have s4 := same_upd (o := .tup vs0) nc
      refine ⟨c, vs0, rfl, .inr (.inl (.inl upd_same)), fun l nl => ?_⟩
      have s5 := same_upd (o := .lst vs0) nl
      have s24 := (s2.trans s3).trans s4
      refine q _ l vs0 (s24.trans s5) (s24.free nl) upd_same ?_
      rw [h2]
      exact dp_keepAll (KeepT.of ((s3.trans s4).trans s5)) _ _ hfl2 hA2
end
end L41

namespace L41
open PySem PySem.Spec PyProof.Rows L2 GR WX TX UA RZ
def szD (n : Nat) (x : PyData) : Int × Int := (((flatP n x).length : Nat), (dpt n x : Nat))
section
variable {P : Program} {w : World} {K : PySem.W.Frag} {mg : Str → Option Value} {base : Heap}
abbrev s_law_size : Stmt := topS 58
abbrev N_sz : List Str := ["_law_thing", "_law_some", "_law_part", "_law_parts", "_law_deep"]
theorem sc_law_size : FnScope N_sz ["_law_thing"] (defScope s_law_size) := ⟨rfl, rfl, rfl, by decide +kernel, rfl, by decide +kernel, by decide +kernel⟩
def sp_size (K : PySem.W.Frag) (n : Nat) : Sp := fun vs H Q _ => ∃ (v : V) (x : PyData) (zs : List Str), vs = [v] ∧ Dp K H v x ∧ Ex zs n x ∧ ∀ H' p, Same H H' → H' p = some (.tup [.int (szD n x).1, .int (szD n x).2]) → Q (.ref p) H'
/-- pairs laid -/
abbrev PairsI (H : Hp) : List V → List (Int × Int) → Prop := Paired fun v d => ∃ a, v = .ref a ∧ H a = some (.tup [.int d.1, .int d.2])
theorem pairsI_keep {H H' : Hp} (s : Same H H') : ∀ {vs : List V} {ds : List (Int × Int)}, PairsI H vs ds → PairsI H' vs ds
  | _, _, .nil => .nil
  | _, _, .cons ⟨a, h1, h2⟩ t => .cons ⟨a, h1, s _ _ h2⟩ (pairsI_keep s t)
theorem pairsI_at {H : Hp} : ∀ {vs : List V} {ds : List (Int × Int)}, PairsI H vs ds → ∀ {i : Nat} {v : V}, vs[i]? = some v → ∃ d a, ds[i]? = some d ∧ v = .ref a ∧ H a = some (.tup [.int d.1, .int d.2])
  | _, _, .nil, i, v, h => by simp at h
  | _, _, .cons (b := d) ⟨a, h1, h2⟩ t, 0, v, h => by
    cases h
    exact ⟨d, a, rfl, h1, h2⟩
  | _, _, .cons h t, i + 1, v, h' => by
    obtain ⟨d, a, h1, h2⟩ := pairsI_at t (by simpa using h')
    exact ⟨d, a, by simpa using h1, h2⟩
theorem ok_size_step {n : Nat} {f fi : Addr} {fd fdi : FuncData} {k : Nat} (F : Fun K "_law_size" "_law_size" s_law_size f fd) (Gi : FnOk P w K mg base CX0 k fi fdi ["_law_thing"] (sp_inner K)) (gi : mg "_law_inner" = some (.ref fi)) (Ki : PySem.W.keepIn K (.ref fi) = true) (bi : Binds K fdi ["_law_thing"] [])
    (G : FnOk P w K mg base CX0 k f fd ["_law_thing"] (sp_size K n)) (g : mg "_law_size" = some (.ref f)) (Kf : PySem.W.keepIn K (.ref f) = true) (b : Binds K fd ["_law_thing"] []) (msum : mg "sum" = none) (mmax : mg "max" = none) : FnOk P w K mg base CX0 (k + 1) f fd ["_law_thing"] (sp_size K (n + 1)) := by
  have nd := sc_law_size.nd
  refine F.ok sc_law_size (fun vs H Q E h => ?_) (fun cdv A outer s H vs Q E hr h => ?_)
  · obtain ⟨v, x, zs, rfl, _⟩ := h
    rfl
  obtain ⟨v, x, zs, rfl, hd, he, q⟩ := h
  refine ⟨_, (pss_cons (ps_setLc (i := 1) (own := [("_law_part", 2)]) (tt := tYes) (te := tCall (sp_size K n) [] E0 (tCons (tVar 2) tNil)) rfl nd rfl rfl (sw_true rfl rfl rfl (by decide +kernel)) (pi_list (pe_call Gi hr (by rfl) gi Ki bi .nil pass0 (pa_cons (pv 0) pa_nil))) (blkOk_by (N := N_sz) (sc := defScope s_law_size) (by decide +kernel)) (fun _ _ _ _ _ => (pg_name (i := 2) nd rfl (Or.inl rfl))) (fun _ _ _ _ _ => pts_nil) (fun _ _ _ _ _ => (pe_call G hr (by rfl) g Kf b .nil pass0 (pa_cons (pv 2) pa_nil))))
      (pss_one (ps_ret (pe_tup (pa_cons (pe_op op_add pe_int (pe_callB (cr_sum rfl) (by rfl) msum boot_sum (pa_cons (pe_lc (own := [("_law_parts", 3), ("_law_deep", 4)]) (g := gTup K 2 (gCons (gName 3) (gCons (gName 4) gNil))) (tt := tYes) (te := tVar 3) rfl nd (pi_list (pv 1)) (blkOk_by (N := N_sz) (sc := defScope s_law_size) (by decide +kernel)) (fun _ _ _ _ _ => (pg_tup rfl (pgs_cons (pg_name (i := 3) (x := "_law_parts") nd rfl (Or.inl rfl)) (pgs_cons (pg_name (i := 4) (x := "_law_deep") nd rfl (Or.inl rfl)) pgs_nil)))) (fun _ _ _ _ _ => pts_nil) (fun _ _ _ _ _ => (pv 3))) pa_nil))) (pa_cons (pe_op op_add pe_int (pe_callB (cr_max rfl) (by rfl) mmax boot_max (pa_cons (pe_op op_cat (pe_lst (pa_cons pe_int pa_nil)) (pe_lc (own := [("_law_parts", 3), ("_law_deep", 4)]) (g := gTup K 2 (gCons (gName 3) (gCons (gName 4) gNil))) (tt := tYes) (te := tVar 4) rfl nd (pi_list (pv 1)) (blkOk_by (N := N_sz) (sc := defScope s_law_size) (by decide +kernel)) (fun _ _ _ _ _ => (pg_tup rfl (pgs_cons (pg_name (i := 3) (x := "_law_parts") nd rfl (Or.inl rfl)) (pgs_cons (pg_name (i := 4) (x := "_law_deep") nd rfl (Or.inl rfl)) pgs_nil)))) (fun _ _ _ _ _ => pts_nil) (fun _ _ _ _ _ => (pv 4)))) pa_nil))) pa_nil)))))), ?_⟩
  refine ⟨v, rfl, v, x, zs, n + 1, rfl, hd, he, fun H1 p us s1 np hp hu => ⟨p, rfl, ⟨us, .inl (.inl hp)⟩, fun D nD => ?_⟩⟩
  have lu := dpAll_len hu
  have hk44 := he.kids
  refine lc_list (xs := us) (fun i H' => ∃ acc, H' D = some (.lst acc) ∧ acc.length = i ∧ PairsI H' acc (((kids x).take i).map (szD n)) ∧ ∀ b ob, b ≠ D → H1 b = some ob → H' b = some ob) ?_ ?_ ?_ ?_
  · refine ⟨[], upd_same, rfl, ?_, fun b ob nb e => by rw [upd_ne nb]; exact e⟩
    rw [List.take_zero]
    exact .nil
  · rintro i H' _ ⟨acc, _, _, _, kk⟩
    exact .inl (.inl (kk _ _ (ne_of_none hp nD) hp))
  · rintro i u H' hu' ⟨acc, hD, hl, hP, kk⟩
    obtain ⟨y, hy, hyd⟩ := dpAll_at hu hu'
    have hi : i < us.length := (List.getElem?_eq_some_iff.mp hu').1
    have ey := hk44.1 y (List.mem_of_getElem? hy)
    have kt : KeepT H1 H' := ⟨fun b us e => kk _ _ (ne_of_none e nD) e, fun b o us e => kk _ _ (ne_of_none e nD) e⟩
    refine ⟨rfl, yes_then ⟨u, rfl, u, y, zs, rfl, ey.kept kt hyd, ey, fun H2 r s2 hr2 => ?_⟩⟩
    refine ⟨acc, s2 _ _ hD, small1000 (by omega), acc ++ [.ref r], upd_same, by rw [List.length_append, hl]; rfl, ?_, fun b ob nb e => by rw [upd_ne nb]; exact s2 _ _ (kk b ob nb e)⟩
    rw [take_snoc hy, List.map_append]
    have hD2 := s2 _ _ hD
    have hrD : r ≠ D := fun z => by rw [z, hD2] at hr2; cases hr2
    refine pair_snoc (F := fun (v : V) (d : Int × Int) => ∃ a, v = .ref a ∧ upd H2 D (.lst (acc ++ [.ref r])) a = some (.tup [.int d.1, .int d.2])) ⟨r, rfl, by rw [upd_ne hrD]; exact hr2⟩ ?_
    refine pair_mono (fun v d ⟨a, h1, h2⟩ => ⟨a, h1, ?_⟩) (pairsI_keep s2 hP)
    rw [upd_ne (fun z => by rw [z, hD2] at h2; cases h2)]
    exact h2
  rintro H2 ⟨acc, hD, hl, hP, kk⟩
  rw [lu, List.take_length] at hP
  have s12 : Same H1 H2 := fun b o e => kk b o (ne_of_none e nD) e
  have hlen : acc.length = (kids x).length := by rw [hl, lu]
  generalize hds : (kids x).map (szD n) = ds at hP
  have ld : ds.length = acc.length := by rw [← hds, List.length_map, hlen]
  have szs : (flatP (n + 1) x).length = 1 + (((kids x).map fun y => (flatP n y).length).sum) := by
    have := szL_kids he
    unfold szL at this
    rw [← this, Nat.add_comm]
    congr 2
    refine List.map_congr_left fun y hy => ?_
    rw [flatP_stable (hk44.1 y hy) (Nat.le_succ n)]
  have hsum : (ds.map (·.1)).sum = (((kids x).map fun y => (flatP n y).length).sum : Nat) := by
    rw [← hds, List.map_map]
    clear hds hP hlen ld q lu hk44 szs hu
    induction kids x with
    | nil => rfl
    | cons y l ih =>
      rw [List.map_cons, List.sum_cons, List.map_cons, List.sum_cons, ih]
      simp [szD]
  refine ⟨.ref D, rfl, D, rfl, ⟨acc, .inl (.inl hD)⟩, fun E1 nE1 => ?_⟩
  refine lc_list (xs := acc) (fun i H' => H' E1 = some (.lst (((ds.take i).map (·.1)).map V.int)) ∧ ∀ b ob, b ≠ E1 → H2 b = some ob → H' b = some ob) ?_ ?_ ?_ ?_
  · exact ⟨upd_same, fun b ob nb e => by rw [upd_ne nb]; exact e⟩
  · rintro i H' _ ⟨_, kk2⟩
    exact .inl (.inl (kk2 _ _ (ne_of_none hD nE1) hD))
  · rintro i u H' hu' ⟨hE, kk2⟩
    obtain ⟨dd, a, hdi, rfl, ha⟩ := pairsI_at hP hu'
    have hi : i < acc.length := (List.getElem?_eq_some_iff.mp hu').1
    refine ⟨a, _, rfl, .inl (.inl (kk2 _ _ (ne_of_none ha nE1) ha)), rfl, _, _, rfl, _, _, rfl, rfl, rfl, yes_then ⟨.int dd.1, rfl, _, hE, small1000 (by rw [List.length_map, List.length_map, List.length_take]; omega), ?_, fun b ob nb e => by rw [upd_ne nb]; exact kk2 b ob nb e⟩⟩
    rw [take_snoc hdi, List.map_append, List.map_append]
    exact upd_same
  rintro H3 ⟨hE1, kk3⟩
  rw [← ld, List.take_length] at hE1
  have s23 : Same H2 H3 := fun b o e => kk3 b o (ne_of_none e nE1) e
  refine ⟨E1, ds.map (·.1), rfl, .inl (.inl hE1), 1, _, rfl, rfl, ?_⟩
  have hD3 := s23 _ _ hD
  have hP3 := pairsI_keep s23 hP
  refine ⟨small_le (show 1 ≤ 1000 by decide), fun Z nZ => ?_⟩
  have sZ := same_upd (o := .lst [.int 0]) nZ
  have hZ : upd H3 Z (.lst [.int 0]) Z = some (.lst [.int 0]) := upd_same
  revert sZ hZ
  generalize upd H3 Z (.lst [.int 0]) = H4
  intro sZ hZ
  have hD4 := sZ _ _ hD3
  have hP4 := pairsI_keep sZ hP3
  refine ⟨.ref D, rfl, D, rfl, ⟨acc, .inl (.inl hD4)⟩, fun E2 nE2 => ?_⟩
  refine lc_list (xs := acc) (fun i H' => H' E2 = some (.lst (((ds.take i).map (·.2)).map V.int)) ∧ ∀ b ob, b ≠ E2 → H4 b = some ob → H' b = some ob) ?_ ?_ ?_ ?_
  · exact ⟨upd_same, fun b ob nb e => by rw [upd_ne nb]; exact e⟩
  · rintro i H' _ ⟨_, kk2⟩
    exact .inl (.inl (kk2 _ _ (ne_of_none hD4 nE2) hD4))
  · rintro i u H' hu' ⟨hE, kk2⟩
    obtain ⟨dd, a, hdi, rfl, ha⟩ := pairsI_at hP4 hu'
    have hi : i < acc.length := (List.getElem?_eq_some_iff.mp hu').1
    refine ⟨a, _, rfl, .inl (.inl (kk2 _ _ (ne_of_none ha nE2) ha)), rfl, _, _, rfl, _, _, rfl, rfl, rfl, yes_then ⟨.int dd.2, rfl, _, hE, small1000 (by rw [List.length_map, List.length_map, List.length_take]; omega), ?_, fun b ob nb e => by rw [upd_ne nb]; exact kk2 b ob nb e⟩⟩
    rw [take_snoc hdi, List.map_append, List.map_append]
    exact upd_same
  rintro H5 ⟨hE2, kk5⟩
  rw [← ld, List.take_length] at hE2
  have s45 : Same H4 H5 := fun b o e => kk5 b o (ne_of_none e nE2) e
  refine ⟨Z, E2, [.int 0], _, rfl, rfl, s45 _ _ hZ, hE2, by rw [List.length_map, List.length_map]; exact h1000 (by simp only [List.length_cons, List.length_nil]; omega), fun R nR => ?_⟩
  have s6 := same_upd (o := .lst ([.int 0] ++ (ds.map (·.2)).map V.int)) nR
  refine ⟨R, 0 :: ds.map (·.2), rfl, .inl (.inl upd_same), Nat.succ_pos _, fun m hm hmx => ?_⟩
  have hmax : m = (mx ((kids x).map (dpt n)) : Nat) := by
    rw [← hds, List.map_map] at hm hmx
    clear hds hP hlen ld q lu hk44 szs hu hsum hP3 hP4 hE1 hE2
    have ub : ∀ (l : List PyData) y, y ∈ l → dpt n y ≤ mx (l.map (dpt n)) := by
      intro l
      induction l with
      | nil => exact fun y h => (nomatch h)
      | cons z l ih =>
        intro y hy
        show _ ≤ max (dpt n z) (mx (l.map (dpt n)))
        rcases List.mem_cons.mp hy with rfl | hy
        · omega
        · have := ih y hy
          omega
    have at_ : ∀ l : List PyData, mx (l.map (dpt n)) = 0 ∨ ∃ y, y ∈ l ∧ mx (l.map (dpt n)) = dpt n y := by
      intro l
      induction l with
      | nil => exact .inl rfl
      | cons z l ih =>
        show max (dpt n z) (mx (l.map (dpt n))) = 0 ∨ ∃ y, y ∈ z :: l ∧ max (dpt n z) (mx (l.map (dpt n))) = dpt n y
        by_cases c : mx (l.map (dpt n)) ≤ dpt n z
        · exact .inr ⟨z, List.mem_cons_self, by omega⟩
        · rcases ih with h | ⟨y, h1, h2⟩
          · omega
          · exact .inr ⟨y, List.mem_cons_of_mem _ h1, by omega⟩
    have h1 : m ≤ (mx ((kids x).map (dpt n)) : Nat) := by
      rcases List.mem_cons.mp hm with rfl | h
      · omega
      · obtain ⟨y, hy, rfl⟩ := List.mem_map.mp h
        have := ub _ y hy
        simp only [Function.comp, szD]
        omega
    have h2 : ((mx ((kids x).map (dpt n)) : Nat) : Int) ≤ m := by
      rcases at_ (kids x) with h | ⟨y, hy, h⟩
      · rw [h]
        exact hmx 0 List.mem_cons_self
      · rw [h]
        exact hmx _ (List.mem_cons_of_mem _ (List.mem_map.mpr ⟨y, hy, rfl⟩))
    omega
  refine ⟨1, m, rfl, rfl, h1000 (show 2 ≤ 1000 by decide), fun T nT => ?_⟩
  have s7 := same_upd (o := .tup [.int (1 + (ds.map (·.1)).sum), .int (1 + m)]) nT
  refine q _ T ((s1.trans s12).trans ((s23.trans sZ).trans ((s45.trans s6).trans s7))) ?_
  have e1 : (szD (n + 1) x).1 = 1 + (ds.map (·.1)).sum := by
    rw [hsum]
    show (((flatP (n + 1) x).length : Nat) : Int) = _
    rw [szs]
    omega
  have e2 : (szD (n + 1) x).2 = 1 + m := by
    rw [hmax]
    show ((dpt (n + 1) x : Nat) : Int) = _
    rw [dpt]
    omega
  rw [e1, e2]
  exact upd_same
theorem ok_size {f fi : Addr} {fd fdi : FuncData} {k : Nat} (F : Fun K "_law_size" "_law_size" s_law_size f fd) (Gi : FnOk P w K mg base CX0 k fi fdi ["_law_thing"] (sp_inner K)) (gi : mg "_law_inner" = some (.ref fi)) (Ki : PySem.W.keepIn K (.ref fi) = true) (bi : Binds K fdi ["_law_thing"] [])
    (g : mg "_law_size" = some (.ref f)) (Kf : PySem.W.keepIn K (.ref f) = true) (b : Binds K fd ["_law_thing"] []) (msum : mg "sum" = none) (mmax : mg "max" = none) : ∀ n, FnOk P w K mg base CX0 (k + n) f fd ["_law_thing"] (sp_size K n)
  | 0 => ok_none fun vs H Q E ⟨v, x, zs, _, _, h, _⟩ => by cases h
  | n + 1 => ok_size_step (k := k + n) F (Gi.mono (by omega)) gi Ki bi (ok_size F Gi gi Ki bi g Kf b msum mmax n) g Kf b msum mmax
end
end L41

namespace L41
open PySem PySem.Spec PyProof.Rows L2 GR WX TX UA RZ
/-! ### what the law closes -/
inductive Cw (lz : Str → Option Int) : Nat → PyData → Prop
  | str (n : Nat) (z : Str) : Cw lz n (.str z)
  | int (n : Nat) (i : Int) : Cw lz n (.int i)
  | var (n : Nat) (z : Str) (q : Int) : lz z = some q → Cw lz (n + 1) (.tuple [.str "var", .str z])
  | nil (n : Nat) : Cw lz (n + 1) (.tuple [])
  | tup (n : Nat) (w : Str) (r : List PyData) : PyData.strOk w = true → w ≠ "var" → r.length ≤ 10 → (∀ x, x ∈ r → Cw lz n x) → Cw lz (n + 1) (.tuple (.str w :: r))
def clD (lz : Str → Option Int) : Nat → PyData → PyData
  | n + 1, .tuple xs => if headW (.tuple xs) = "var" then letD ((lz (nameV (.tuple xs))).getD 0) else .tuple (xs.map (clD lz n))
  | _, x => x
theorem clD_str {lz : Str → Option Int} {z : Str} : ∀ n, clD lz n (.str z) = .str z
  | 0 => rfl
  | _ + 1 => rfl
theorem clD_int {lz : Str → Option Int} {i : Int} : ∀ n, clD lz n (.int i) = .int i
  | 0 => rfl
  | _ + 1 => rfl
theorem clD_var {lz : Str → Option Int} {n : Nat} {z : Str} {q : Int} (h : lz z = some q) : clD lz (n + 1) (.tuple [.str "var", .str z]) = letD q := by
  rw [clD, if_pos (show headW (.tuple [.str "var", .str z]) = "var" from rfl)]
  show letD ((lz z).getD 0) = _
  rw [h]
  rfl
theorem clD_nil {lz : Str → Option Int} {n : Nat} : clD lz (n + 1) (.tuple []) = .tuple [] := by
  rw [clD, if_neg (show ¬ headW (.tuple []) = "var" by decide +kernel)]
  rfl
theorem clD_tup {lz : Str → Option Int} {n : Nat} {w : Str} {r : List PyData} (h : w ≠ "var") : clD lz (n + 1) (.tuple (.str w :: r)) = .tuple (.str w :: r.map (clD lz n)) := by
  rw [clD, if_neg (show ¬ headW (.tuple (.str w :: r)) = "var" from h), List.map_cons, clD_str]
theorem clD_flat {lz : Str → Option Int} : ∀ {n : Nat} {x : PyData}, Cw lz n x → flatD x = true → flatD (clD lz n x) = true := by
  intro n x h
  induction h with
  | str n z => intro _; rw [clD_str]; rfl
  | int n i => intro _; rw [clD_int]; rfl
  | var n z q hq => intro _; rw [clD_var hq]; rfl
  | nil n => intro _; rw [clD_nil]; rfl
  | tup n w r h1 h2 h3 h4 ih =>
    intro hf
    rw [clD_tup h2, flatD, flatDs]
    rw [flatD, flatDs, Bool.and_eq_true] at hf
    rw [Bool.and_eq_true]
    refine ⟨rfl, flatDs_of fun y hy => ?_⟩
    obtain ⟨z, hz, rfl⟩ := List.mem_map.mp hy
    refine ih z hz ?_
    obtain ⟨i, hi⟩ := List.mem_iff_getElem?.mp hz
    exact flatDs_at hf.2 hi
theorem Cw.form {lz : Str → Option Int} {n : Nat} {x : PyData} (h : Cw lz n x) : (∃ z, x = .str z) ∨ (∃ i, x = .int i) ∨ (∃ z q, x = .tuple [.str "var", .str z] ∧ lz z = some q ∧ clD lz n x = letD q) ∨
    ∃ m xs, n = m + 1 ∧ x = .tuple xs ∧ ¬ headW (.tuple xs) = "var" ∧ (xs = [] ∨ ∃ w r, xs = .str w :: r ∧ PyData.strOk w = true) ∧ xs.length ≤ 11 ∧ (∀ y, y ∈ xs → Cw lz m y) ∧ clD lz n x = .tuple (xs.map (clD lz m)) := by
  cases h with
  | str n z => exact .inl ⟨z, rfl⟩
  | int n i => exact .inr (.inl ⟨i, rfl⟩)
  | var n z q h => exact .inr (.inr (.inl ⟨z, q, rfl, h, clD_var h⟩))
  | nil n => exact .inr (.inr (.inr ⟨n, [], rfl, rfl, by decide +kernel, .inl rfl, by decide, fun y h => (nomatch h), clD_nil⟩))
  | tup n w r h1 h2 h3 h4 =>
    refine .inr (.inr (.inr ⟨n, .str w :: r, rfl, rfl, h2, .inr ⟨w, r, rfl, h1⟩, by rw [List.length_cons]; omega, fun y h => ?_, ?_⟩))
    · rcases List.mem_cons.mp h with rfl | h
      · exact .str n w
      · exact h4 y h
    · rw [clD_tup h2, List.map_cons, clD_str]
theorem kit_tt (K : PySem.W.Frag) : PySem.W.kitOne K (.type "tuple") (.type "tuple") = some true := kit_ty (show kitB "tuple" "tuple" = some true by decide +kernel)
theorem kit_ts (K : PySem.W.Frag) : PySem.W.kitOne K (.type "str") (.type "tuple") = some false := kit_ty (show kitB "str" "tuple" = some false by decide +kernel)
theorem kit_ti (K : PySem.W.Frag) : PySem.W.kitOne K (.type "int") (.type "tuple") = some false := kit_ty (show kitB "int" "tuple" = some false by decide +kernel)
theorem ty_tup {K : PySem.W.Frag} {H : Hp} {a : Addr} {xs : List V} (h : SqT K H a xs) : TyX K H (.ref a) (.type "tuple") := by
  rcases h with (h | ⟨o, h⟩) | ⟨o, its, n, h1, h2, _⟩
  · exact .base (.tup h)
  · exact .fTuple h
  · exact .kTuple h1 h2
section
variable {P : Program} {w : World} {K : PySem.W.Frag} {mg : Str → Option Value} {base : Heap}
abbrev s_law_closed : Stmt := topS 53
abbrev N_cl : List Str := ["_law_thing", "_law_lets", "_law_part"]
theorem sc_law_closed : FnScope N_cl ["_law_thing", "_law_lets"] (defScope s_law_closed) := ⟨rfl, rfl, rfl, by decide +kernel, rfl, by decide +kernel, by decide +kernel⟩
def sp_cl (K : PySem.W.Frag) (n : Nat) : Sp := fun vs H Q _ => ∃ (v : V) (x : PyData) (la : Addr) (kvs : List (Key × V)) (lz : Str → Option Int), vs = [v, .ref la] ∧ Dp K H v x ∧ flatD x = true ∧ Cw lz n x ∧ H la = some (.dK kvs) ∧ (∀ z q, lz z = some q → valV kvs (.inr z) = some (.int q)) ∧
  ∀ H' v', Same H H' → Dp K H' v' (clD lz n x) → Q v' H'
theorem ok_cl_step {n : Nat} {f : Addr} {fd : FuncData} {k : Nat} (F : Fun K "_law_closed" "_law_closed" s_law_closed f fd)
    (G : FnOk P w K mg base CX0 k f fd ["_law_thing", "_law_lets"] (fun vs H Q E => ∃ m, n = m + 1 ∧ sp_cl K m vs H Q E)) (g : mg "_law_closed" = some (.ref f)) (Kf : PySem.W.keepIn K (.ref f) = true) (b : Binds K fd ["_law_thing", "_law_lets"] []) (misi : mg "isinstance" = none) (mtuple : mg "tuple" = none) :
    FnOk P w K mg base CX0 (k + 1) f fd ["_law_thing", "_law_lets"] (sp_cl K n) := by
  have nd := sc_law_closed.nd
  refine F.ok sc_law_closed (fun vs H Q E h => ?_) (fun cdv A outer s H vs Q E hr h => ?_)
  · obtain ⟨v, x, la, kvs, lz, rfl, _⟩ := h
    rfl
  obtain ⟨v, x, la, kvs, lz, rfl, hd, hf, hc, hla, hlz, q⟩ := h
  have hu1 := hu_of hr
  refine ⟨_, (pss_cons (ps_if (pt_not (pt_val (pe_callB call_isi (by rfl) misi boot_isinstance (pa_cons (pv 0) (pa_cons (pe_bltn (v := .ty "tuple") (by rfl) mtuple boot_tuple rfl) pa_nil)))))
      (pss_one (ps_ret (pv 0)))
      pss_nil)
      (pss_cons (ps_if (pt_cmpR (op_eqM hr.units) (pe_slice sl_tupA (pv 0) po_none (po_some pe_int)) (pe_tup (pa_cons pe_str pa_nil)) (nomark _))
      (pss_one (ps_ret (pe_tup (pa_cons pe_str (pa_cons (pe_dget hu1 (pv 1) (pe_ix ix_tup (pv 0) pe_int (fun _ _ => rfl)) (fun _ _ => rfl)) pa_nil)))))
      pss_nil)
      (pss_one (ps_ret (pe_callTy call_tuple_of (by rfl) mtuple boot_tuple (pa_cons (pe_lc (own := [("_law_part", 2)]) (tt := tYes) (te := tCall (fun vs H Q E => ∃ m, n = m + 1 ∧ sp_cl K m vs H Q E) [] E0 (tCons (tVar 2) (tCons (tVar 1) tNil))) rfl nd (pi_tup (pv 0)) (blkOk_by (N := N_cl) (sc := defScope s_law_closed) (by decide +kernel)) (fun _ _ _ _ _ => (pg_name (i := 2) nd rfl (Or.inl rfl))) (fun _ _ _ _ _ => pts_nil) (fun _ _ _ _ _ => (pe_call G hr (by rfl) g Kf b .nil pass0 (pa_cons (pv 2) (pa_cons (pv 1) pa_nil))))) pa_nil)))))), ?_⟩
  -- the test of the first one
  have test : ∀ {a : Addr} {us : List V} {xs : List PyData}, SqT K H a us → DpAll K H us xs → flatDs xs = true → (xs = [] ∨ ∃ w r, xs = .str w :: r ∧ PyData.strOk w = true) → ∀ {Qx : VK}, (∀ H', Same H H' → Qx (.bl (decide (headW (.tuple xs) = "var"))) H') →
      tOp (rEqM K) (tSl (rSlA K) (tVar 0) tNoPart (tPart (tC (.int 1)))) (tTup (tCons (tC (.str "var")) tNil)) [some (.ref a), some (.ref la), none] H Qx := by
    intro a us xs hS hA hfx hx Qx hq
    have lu := dpAll_len hA
    have fin : ∀ (p : Addr) (H1 : Hp), Same H H1 → SqT K H1 p (us.take 1) → tTup (tCons (tC (.str "var")) tNil) [some (.ref a), some (.ref la), none] H1 fun y H2 => rEqM K (.ref p) y H2 Qx := by
      intro p H1 s1 hp
      refine ⟨h1000 (show 1 ≤ 1000 by decide), fun t nt => ?_⟩
      have st := same_upd (o := .tup [.str "var"]) nt
      refine ⟨.tuple (xs.take 1), .tuple [.str "var"], .tup ((KeepT.of st).seqt hp) (dp_keepAll (KeepT.of (s1.trans st)) _ _ (flatDs_take _ hfx) (dpAll_take 1 hA)), new_tup (.cons (.str "var") .nil) rfl nt, ?_, ?_, ?_, ?_⟩
      · rcases hx with rfl | ⟨w', r, rfl, hw⟩
        · rfl
        · show PyData.canLay0 (.tuple [.str w']) = true
          simp only [PyData.canLay0, PyData.canLayAll0, hw, Bool.and_true]
      · simp only [PyData.canLay0, PyData.canLayAll0, Bool.and_true, ok_words "var" (by decide)]
      · simp only [PyData.depth, PyData.depthAll]
        omega
      · have : PyData.eqv (.tuple (xs.take 1)) (.tuple [.str "var"]) = decide (headW (.tuple xs) = "var") := by
          rcases hx with rfl | ⟨w', r, rfl, hw⟩
          · rw [show decide (headW (.tuple []) = "var") = false by decide +kernel]
            simp only [List.take_nil, PyData.eqv, PyData.eqvAll]
          · show PyData.eqv (.tuple [.str w']) (.tuple [.str "var"]) = decide (w' = "var")
            simp only [PyData.eqv, PyData.eqvAll, Bool.and_true]
            rw [Bool.eq_iff_iff, beq_iff_eq, decide_eq_true_eq]
        rw [this]
        exact hq _ (s1.trans st)
    have i1 : HT.sIx us.length us.length (some 1) = min 1 us.length := HT.sIx_nat _ _ 1
    refine ⟨.ref a, rfl, 1, rfl, a, us, rfl, hS, fun h => ?_, fun h c nc => ?_⟩
    · have e := h.2
      rw [i1] at e
      have : us.take 1 = us := List.take_of_length_le (by omega)
      exact fin a H (fun _ _ e => e) (by rw [this]; exact hS)
    · have hlt : 1 < us.length := by
        by_cases z : us.length ≤ 1
        · exact absurd ⟨rfl, by rw [i1]; omega⟩ h
        · omega
      have cut : cutV us none (some 1) = us.take 1 := by
        unfold cutV
        rw [HT.sIx_none, i1, List.drop_zero, Nat.sub_zero, show min 1 us.length = 1 by omega]
      rw [cut]
      exact fin c _ (same_upd nc) (.inl (.inl upd_same))
  rcases hc.form with ⟨z, rfl⟩ | ⟨i, rfl⟩ | ⟨z, p, rfl, hz, hcl⟩ | ⟨m, xs, rfl, rfl, hne, hfi, hl, hx, hcl⟩
  · rw [clD_str] at q
    exact ⟨v, rfl, v, .ty "tuple", _, _, _, rfl, .ty "tuple", (by cases hd; exact .base (.str z)), kit_ts K, _, rfl, iteT ⟨v, rfl, q H v (fun _ _ e => e) hd⟩⟩
  · rw [clD_int] at q
    exact ⟨v, rfl, v, .ty "tuple", _, _, _, rfl, .ty "tuple", (by cases hd; exact .base (.int i)), kit_ti K, _, rfl, iteT ⟨v, rfl, q H v (fun _ _ e => e) hd⟩⟩
  · rw [hcl] at q
    cases hd with
    | @tup a us _ hS hA =>
    refine ⟨.ref a, rfl, .ref a, .ty "tuple", _, _, _, rfl, .ty "tuple", ty_tup hS, kit_tt K, _, rfl, iteF (test hS hA rfl (.inr ⟨_, _, rfl, ok_words "var" (by decide)⟩) fun H1 s1 => ?_)⟩
    rw [decide_eq_true (show headW (.tuple [.str "var", .str z]) = "var" from rfl)]
    cases hA with
    | cons g1 hA =>
    cases g1
    cases hA with
    | cons g2 hA =>
    cases g2
    cases hA
    refine ⟨_, rfl, iteT ⟨.ref la, rfl, .ref a, rfl, a, _, 1, .str z, rfl, rfl, (KeepT.of s1).seqt hS, at1, la, .int p, rfl, ?_, h1000 (show 2 ≤ 1000 by decide), fun t nt => ?_⟩⟩
    · have := DGet.k (k := .inr z) (s1 _ _ hla)
      rw [hlz z p hz] at this
      exact this
    · exact q _ _ (s1.trans (same_upd nt)) (new_tup (.cons (.str "let") (.cons (.int p) .nil)) rfl nt)
  · rw [hcl] at q
    cases hd with
    | @tup a us _ hS hA =>
    have lu := dpAll_len hA
    have hfx : flatDs xs = true := by rw [flatD] at hf; exact hf
    refine ⟨.ref a, rfl, .ref a, .ty "tuple", _, _, _, rfl, .ty "tuple", ty_tup hS, kit_tt K, _, rfl, iteF (test hS hA hfx hfi fun H1 s1 => ?_)⟩
    rw [decide_eq_false hne]
    have hS1 := (KeepT.of s1).seqt hS
    have hA1 := dp_keepAll (KeepT.of s1) _ _ hfx hA
    have hla1 := s1 _ _ hla
    refine ⟨_, rfl, iteF ⟨.ref a, rfl, a, rfl, ⟨us, hS1⟩, fun D nD => ?_⟩⟩
    have hlD : la ≠ D := ne_of_none hla1 nD
    refine lc_tup (xs := us) (fun i H' => ∃ acc, H' D = some (.lst acc) ∧ acc.length = i ∧ DpAll K H' acc ((xs.take i).map (clD lz m)) ∧ ∀ b ob, b ≠ D → H1 b = some ob → H' b = some ob) ?_ ?_ ?_ ?_
    · refine ⟨[], upd_same, rfl, ?_, fun b ob nb e => by rw [upd_ne nb]; exact e⟩
      rw [List.take_zero]
      exact .nil
    · rintro i H' _ ⟨acc, _, _, _, kk⟩
      exact (KeepT.of (show Same H1 H' from fun b o e => kk b o (ne_of_none e nD) e)).seqt hS1
    · rintro i u H' hu' ⟨acc, hD, hl', hP, kk⟩
      obtain ⟨y, hy, hyd⟩ := dpAll_at hA1 hu'
      have hi : i < us.length := (List.getElem?_eq_some_iff.mp hu').1
      have hmem := List.mem_of_getElem? hy
      have cy := hx y hmem
      have fy := flatDs_at hfx hy
      have kt : KeepT H1 H' := KeepT.of (fun b o e => kk b o (ne_of_none e nD) e)
      have fP : flatDs ((xs.take i).map (clD lz m)) = true := flatDs_of fun z hz => by
        obtain ⟨y', hy', rfl⟩ := List.mem_map.mp hz
        have hm' := List.mem_of_mem_take hy'
        obtain ⟨j, hj⟩ := List.mem_iff_getElem?.mp hm'
        exact clD_flat (hx y' hm') (flatDs_at hfx hj)
      refine ⟨rfl, yes_then ⟨u, rfl, .ref la, rfl, m, rfl, u, y, la, kvs, lz, rfl, dp_keep kt _ _ fy hyd, fy, cy, kk _ _ hlD hla1, hlz, fun H2 r s2 hr2 => ?_⟩⟩
      have hD2 := s2 _ _ hD
      have kD : KeepT H2 (upd H2 D (.lst (acc ++ [r]))) := KeepT.lst hD2
      refine ⟨acc, hD2, small1000 (by omega), acc ++ [r], upd_same, by rw [List.length_append, hl']; rfl, ?_, fun b ob nb e => by rw [upd_ne nb]; exact s2 _ _ (kk b ob nb e)⟩
      rw [take_snoc hy, List.map_append]
      exact dpAll_app (dp_keepAll ((KeepT.of s2).trans kD) _ _ fP hP) (.cons (dp_keep kD _ _ (clD_flat cy fy) hr2) .nil)
    · rintro H2 ⟨acc, hD, hl', hP, kk⟩
      rw [lu, List.take_length] at hP
      refine ⟨D, acc, rfl, .inl ⟨.inl (.inl hD), fun t nt => ?_⟩⟩
      have st := same_upd (o := .tup acc) nt
      have fP : flatDs (xs.map (clD lz m)) = true := flatDs_of fun z hz => by
        obtain ⟨y', hy', rfl⟩ := List.mem_map.mp hz
        obtain ⟨j, hj⟩ := List.mem_iff_getElem?.mp hy'
        exact clD_flat (hx y' hy') (flatDs_at hfx hj)
      exact q _ _ ((s1.trans (fun b o e => kk b o (ne_of_none e nD) e)).trans st) (new_tup hP fP nt)
theorem ok_closed {f : Addr} {fd : FuncData} {k : Nat} (F : Fun K "_law_closed" "_law_closed" s_law_closed f fd) (g : mg "_law_closed" = some (.ref f)) (Kf : PySem.W.keepIn K (.ref f) = true) (b : Binds K fd ["_law_thing", "_law_lets"] []) (misi : mg "isinstance" = none) (mtuple : mg "tuple" = none) :
    ∀ n, FnOk P w K mg base CX0 (k + n + 1) f fd ["_law_thing", "_law_lets"] (sp_cl K n)
  | 0 => ok_cl_step (k := k) F (ok_none fun vs H Q E ⟨m, h, _⟩ => by omega) g Kf b misi mtuple
  | n + 1 => ok_cl_step (k := k + n + 1) F ((ok_closed F g Kf b misi mtuple n).imp (by
      rintro vs H Q E ⟨m, hm, h⟩
      obtain rfl : n = m := by omega
      exact h)) g Kf b misi mtuple
end
end L41

namespace L41
open PySem PySem.Spec PyProof.Rows L2 GR WX TX UA RZ
theorem Cw.up {lz : Str → Option Int} {n : Nat} {x : PyData} (h : Cw lz n x) : ∀ {m : Nat}, n ≤ m → Cw lz m x ∧ clD lz m x = clD lz n x := by
  induction h with
  | str n z => exact fun _ => ⟨.str _ z, by rw [clD_str, clD_str]⟩
  | int n i => exact fun _ => ⟨.int _ i, by rw [clD_int, clD_int]⟩
  | var n z q h =>
    intro m hm
    obtain ⟨k, rfl⟩ : ∃ k, m = k + 1 := ⟨m - 1, by omega⟩
    exact ⟨.var k z q h, by rw [clD_var h, clD_var h]⟩
  | nil n =>
    intro m hm
    obtain ⟨k, rfl⟩ : ∃ k, m = k + 1 := ⟨m - 1, by omega⟩
    exact ⟨.nil k, by rw [clD_nil, clD_nil]⟩
  | tup n w r h1 h2 h3 h4 ih =>
    intro m hm
    obtain ⟨k, rfl⟩ : ∃ k, m = k + 1 := ⟨m - 1, by omega⟩
    refine ⟨.tup k w r h1 h2 h3 fun x hx => (ih x hx (by omega)).1, ?_⟩
    rw [clD_tup h2, clD_tup h2]
    congr 2
    exact List.map_congr_left fun x hx => (ih x hx (by omega)).2
theorem cw_row {lz : Str → Option Int} {n : Nat} {t : Str} : Cw lz (n + 2) (rowX t) ∧ clD lz (n + 2) (rowX t) = rowX t := by
  have hk : Cw lz (n + 1) (.tuple [.str "key"]) := .tup n "key" [] (ok_words "key" (by decide)) (by decide) (by decide) (fun x h => (nomatch h))
  refine ⟨.tup (n + 1) "cell" _ (ok_words "cell" (by decide)) (by decide) (by simp only [List.length_cons, List.length_nil]; omega) fun x hx => ?_, ?_⟩
  · simp only [List.mem_cons, List.not_mem_nil, or_false] at hx
    rcases hx with rfl | rfl | rfl
    · exact .str _ _
    · exact hk
    · exact .str _ _
  · show clD lz (n + 2) (.tuple [.str "cell", .str t, .tuple [.str "key"], .str "in"]) = _
    rw [clD_tup (by decide), List.map_cons, List.map_cons, List.map_cons, List.map_nil, clD_str, clD_str, clD_tup (by decide)]
    rfl
theorem Cx.cw {zs sc : List Str} {lz : Str → Option Int} (hl : ∀ z, z ∈ sc → ∃ q, lz z = some q) {b : Bool} {n : Nat} {x : PyData} (h : Cx zs sc b n x) : Cw lz (2 * n + 1) x ∧ clD lz (2 * n + 1) x = L41.varW lz n x := by
  induction h with
  | int b n i h1 h2 =>
    rw [v_leaf (zs := []) (.int i h1 h2) (by decide)]
    refine ⟨.tup _ _ _ (ok_words "int" (by decide)) (by decide) (by simp only [List.length_cons, List.length_nil]; omega) fun x hx => ?_, ?_⟩
    · rw [List.mem_singleton.mp hx]
      exact .int _ _
    · rw [show 2 * (n + 1) + 1 = (2 * n + 2) + 1 by omega, clD_tup (by decide), List.map_cons, List.map_nil, clD_int]
  | let_ b n i g h1 h2 =>
    rw [v_leaf (zs := []) (.let_ i h1 h2) (by decide)]
    refine ⟨.tup _ _ _ (ok_words "let" (by decide)) (by decide) (by simp only [List.length_cons, List.length_nil]; omega) fun x hx => ?_, ?_⟩
    · rw [List.mem_singleton.mp hx]
      exact .int _ _
    · rw [show 2 * (n + 1) + 1 = (2 * n + 2) + 1 by omega, clD_tup (by decide), List.map_cons, List.map_nil, clD_int]
  | key n =>
    rw [v_leaf (zs := []) .key (by decide)]
    refine ⟨.tup _ _ _ (ok_words "key" (by decide)) (by decide) (by decide) fun x hx => (nomatch hx), ?_⟩
    rw [show 2 * (n + 1) + 1 = (2 * n + 2) + 1 by omega, clD_tup (by decide)]
    rfl
  | var b n z h1 =>
    obtain ⟨q, e⟩ := hl z h1
    rw [v_var e]
    refine ⟨.var _ z q e, ?_⟩
    rw [show 2 * (n + 1) + 1 = (2 * n + 2) + 1 by omega, clD_var e]
  | cell b n t v x h1 h2 _ ih =>
    obtain ⟨a1, a2⟩ := ih.1.up (m := 2 * n + 2) (by omega)
    rw [v_cell, ← ih.2, ← a2]
    refine ⟨.tup (2 * n + 2) _ _ (ok_words "cell" (by decide)) (by decide) (by simp only [List.length_cons, List.length_nil]; omega) fun y hy => ?_, ?_⟩
    · simp only [List.mem_cons, List.not_mem_nil, or_false] at hy
      rcases hy with rfl | rfl | rfl
      · exact .str _ _
      · exact a1
      · exact .str _ _
    · rw [show 2 * (n + 1) + 1 = (2 * n + 2) + 1 by omega, clD_tup (by decide), List.map_cons, List.map_cons, List.map_cons, List.map_nil, clD_str, clD_str]
  | op b n o x y h1 _ _ ih1 ih2 =>
    obtain ⟨a1, a2⟩ := ih1.1.up (m := 2 * n + 2) (by omega)
    obtain ⟨b1, b2⟩ := ih2.1.up (m := 2 * n + 2) (by omega)
    have ho : o ∈ opws := (show ∀ o, o ∈ ops5 → o ∈ opws by decide) o h1
    have hw : PyData.strOk o = true ∧ o ≠ "var" := (show ∀ o, o ∈ ops5 → PyData.strOk o = true ∧ o ≠ "var" by decide +kernel) o h1
    rw [v_op ho, ← ih1.2, ← a2, ← ih2.2, ← b2]
    refine ⟨.tup (2 * n + 2) _ _ hw.1 hw.2 (by simp only [List.length_cons, List.length_nil]; omega) fun z hz => ?_, ?_⟩
    · simp only [List.mem_cons, List.not_mem_nil, or_false] at hz
      rcases hz with rfl | rfl
      · exact a1
      · exact b1
    · rw [show 2 * (n + 1) + 1 = (2 * n + 2) + 1 by omega, clD_tup hw.2, List.map_cons, List.map_cons, List.map_nil]
  | at_ b n x y _ _ ih1 ih2 =>
    obtain ⟨a1, a2⟩ := ih1.1.up (m := 2 * n + 2) (by omega)
    obtain ⟨b1, b2⟩ := ih2.1.up (m := 2 * n + 2) (by omega)
    rw [v_op (by decide), ← ih1.2, ← a2, ← ih2.2, ← b2]
    refine ⟨.tup (2 * n + 2) _ _ (ok_words "at" (by decide)) (by decide) (by simp only [List.length_cons, List.length_nil]; omega) fun z hz => ?_, ?_⟩
    · simp only [List.mem_cons, List.not_mem_nil, or_false] at hz
      rcases hz with rfl | rfl
      · exact a1
      · exact b1
    · rw [show 2 * (n + 1) + 1 = (2 * n + 2) + 1 by omega, clD_tup (by decide), List.map_cons, List.map_cons, List.map_nil]
  | iff b n x y z _ _ _ ih1 ih2 ih3 =>
    obtain ⟨a1, a2⟩ := ih1.1.up (m := 2 * n + 2) (by omega)
    obtain ⟨b1, b2⟩ := ih2.1.up (m := 2 * n + 2) (by omega)
    obtain ⟨c1, c2⟩ := ih3.1.up (m := 2 * n + 2) (by omega)
    rw [v_if, ← ih1.2, ← a2, ← ih2.2, ← b2, ← ih3.2, ← c2]
    refine ⟨.tup (2 * n + 2) _ _ (ok_words "if" (by decide)) (by decide) (by simp only [List.length_cons, List.length_nil]; omega) fun u hu => ?_, ?_⟩
    · simp only [List.mem_cons, List.not_mem_nil, or_false] at hu
      rcases hu with rfl | rfl | rfl
      · exact a1
      · exact b1
      · exact c1
    · rw [show 2 * (n + 1) + 1 = (2 * n + 2) + 1 by omega, clD_tup (by decide), List.map_cons, List.map_cons, List.map_cons, List.map_nil]
  | agg b n o t p xs vs ds hh h0 h1 h2 h3 _ _ _ _ _ ih2 ih3 ih4 =>
    obtain rfl : xs = [] := List.eq_nil_of_length_eq_zero (Nat.le_zero.mp h3)
    rw [v_agg h1, v_row h0]
    have hw : PyData.strOk o = true ∧ o ≠ "var" ∧ vs.length + ds.length ≤ 2 := by
      simp only [aggk, List.mem_cons, List.not_mem_nil, or_false, Prod.mk.injEq] at h1
      rcases h1 with ⟨rfl, h1, h2⟩ | ⟨rfl, h1, h2⟩ | ⟨rfl, h1, h2⟩ | ⟨rfl, h1, h2⟩ <;> exact ⟨ok_words _ (by decide), by decide, by omega⟩
    obtain ⟨k, rfl⟩ : ∃ k, n = k + 1 := ⟨n - 1, by omega⟩
    have up : ∀ {y : PyData}, Cw lz (2 * (k + 1) + 1) y ∧ clD lz (2 * (k + 1) + 1) y = L41.varW lz (k + 1) y → Cw lz (2 * (k + 1) + 2) y ∧ clD lz (2 * (k + 1) + 2) y = L41.varW lz (k + 1) y := fun {y} h => by
      obtain ⟨a1, a2⟩ := h.1.up (m := 2 * (k + 1) + 2) (by omega)
      exact ⟨a1, a2.trans h.2⟩
    obtain ⟨p1, p2⟩ := up ih2
    obtain ⟨r1, r2⟩ := cw_row (lz := lz) (n := 2 * k + 2) (t := t)
    refine ⟨.tup (2 * (k + 1) + 2) _ _ hw.1 hw.2.1 (by simp only [List.length_cons, List.length_append]; omega) fun u hu => ?_, ?_⟩
    · rcases List.mem_cons.mp hu with rfl | hu
      · exact .str _ _
      rcases List.mem_cons.mp hu with rfl | hu
      · exact .nil _
      rcases List.mem_cons.mp hu with rfl | hu
      · exact r1
      rcases List.mem_cons.mp hu with rfl | hu
      · exact p1
      rcases List.mem_append.mp hu with hu | hu
      · exact (up (ih3 u hu)).1
      · exact (up (ih4 u hu)).1
    · rw [show 2 * (k + 1 + 1) + 1 = (2 * (k + 1) + 2) + 1 by omega, clD_tup hw.2.1, List.map_cons, List.map_cons, List.map_cons, List.map_cons, List.map_append, clD_str, clD_nil, p2]
      have e3 : vs.map (clD lz (2 * (k + 1) + 2)) = vs.map (L41.varW lz (k + 1)) := List.map_congr_left fun y hy => (up (ih3 y hy)).2
      have e4 : ds.map (clD lz (2 * (k + 1) + 2)) = ds.map (L41.varW lz (k + 1)) := List.map_congr_left fun y hy => (up (ih4 y hy)).2
      rw [e3, e4, show 2 * (k + 1) + 2 = 2 * k + 2 + 2 by omega, r2]
/-- a statement closed -/
theorem StX.cw {ts cs sc : List Str} {lz : Str → Option Int} (hl : ∀ z, z ∈ sc → ∃ q, lz z = some q) {x : PyData} (h : StX ts cs sc x) : Cw lz 14 x ∧ clD lz 14 x = match x with
    | .tuple [.str w, .str z, e] => .tuple [.str w, .str z, L41.varW lz 5 e]
    | .tuple [.str w, .str t, y, .str z, u] => .tuple [.str w, .str t, L41.varW lz 5 y, .str z, L41.varW lz 5 u]
    | x => clD lz 14 x := by
  have up : ∀ {y : PyData} {zs : List Str} {b : Bool}, Cx zs sc b 5 y → ∀ j, 11 ≤ j → Cw lz j y ∧ clD lz j y = L41.varW lz 5 y := fun {y zs b} h j hj => by
    obtain ⟨a1, a2⟩ := (h.cw hl).1.up (m := j) hj
    exact ⟨a1, a2.trans (h.cw hl).2⟩
  cases h with
  | let_ z e hz hn he =>
    obtain ⟨a1, a2⟩ := up he 13 (by decide)
    refine ⟨.tup 13 _ _ (ok_words "let" (by decide)) (by decide) (by simp only [List.length_cons, List.length_nil]; omega) fun u hu => ?_, ?_⟩
    · simp only [List.mem_cons, List.not_mem_nil, or_false] at hu
      rcases hu with rfl | rfl
      · exact .str _ _
      · exact a1
    · show clD lz 14 (.tuple [.str "let", .str z, e]) = .tuple [.str "let", .str z, L41.varW lz 5 e]
      rw [clD_tup (by decide), List.map_cons, List.map_cons, List.map_nil, clD_str, a2]
  | need e he =>
    obtain ⟨a1, a2⟩ := up he 12 (by decide)
    refine ⟨.tup 13 _ _ (by decide +kernel) (by decide) (by simp only [List.length_cons, List.length_nil]; omega) fun u hu => ?_, rfl⟩
    rw [List.mem_singleton.mp hu]
    refine .tup 12 _ _ (ok_words "<" (by decide)) (by decide) (by simp only [List.length_cons, List.length_nil]; omega) fun u hu => ?_
    simp only [List.mem_cons, List.not_mem_nil, or_false] at hu
    rcases hu with rfl | rfl
    · refine .tup 11 _ _ (ok_words "int" (by decide)) (by decide) (by simp only [List.length_cons, List.length_nil]; omega) fun u hu => ?_
      rw [List.mem_singleton.mp hu]
      exact .int _ _
    · exact a1
  | tell e he =>
    obtain ⟨a1, a2⟩ := up he 13 (by decide)
    refine ⟨.tup 13 _ _ (by decide +kernel) (by decide) (by simp only [List.length_cons, List.length_nil]; omega) fun u hu => ?_, ?_⟩
    · rw [List.mem_singleton.mp hu]
      exact a1
    · cases he <;> rfl
  | each t z y u ht hz hy hu =>
    obtain ⟨a1, a2⟩ := up hy 13 (by decide)
    obtain ⟨b1, b2⟩ := up hu 13 (by decide)
    refine ⟨.tup 13 _ _ (by decide +kernel) (by decide) (by simp only [List.length_cons, List.length_nil]; omega) fun x hx => ?_, ?_⟩
    · simp only [List.mem_cons, List.not_mem_nil, or_false] at hx
      rcases hx with rfl | rfl | rfl | rfl
      · exact .str _ _
      · exact a1
      · exact .str _ _
      · exact b1
    · show clD lz 14 (.tuple [.str "each", .str t, y, .str z, u]) = .tuple [.str "each", .str t, L41.varW lz 5 y, .str z, L41.varW lz 5 u]
      rw [clD_tup (by decide), List.map_cons, List.map_cons, List.map_cons, List.map_cons, List.map_nil, clD_str, clD_str, a2, b2]
  | put t z y u ht hz hy hu =>
    obtain ⟨a1, a2⟩ := up hy 13 (by decide)
    obtain ⟨b1, b2⟩ := up hu 13 (by decide)
    refine ⟨.tup 13 _ _ (by decide +kernel) (by decide) (by simp only [List.length_cons, List.length_nil]; omega) fun x hx => ?_, ?_⟩
    · simp only [List.mem_cons, List.not_mem_nil, or_false] at hx
      rcases hx with rfl | rfl | rfl | rfl
      · exact .str _ _
      · exact a1
      · exact .str _ _
      · exact b1
    · show clD lz 14 (.tuple [.str "put", .str t, y, .str z, u]) = .tuple [.str "put", .str t, L41.varW lz 5 y, .str z, L41.varW lz 5 u]
      rw [clD_tup (by decide), List.map_cons, List.map_cons, List.map_cons, List.map_cons, List.map_nil, clD_str, clD_str, a2, b2]
end L41

namespace L41
open PySem PySem.Spec PyProof.Rows L2 GR WX TX UA RZ
/-! ### lets in scope -/
theorem Cw.congr {lz lz' : Str → Option Int} (hs : ∀ z q, lz z = some q → lz' z = some q) {n : Nat} {x : PyData} (h : Cw lz n x) : clD lz' n x = clD lz n x := by
  induction h with
  | str n z => rw [clD_str, clD_str]
  | int n i => rw [clD_int, clD_int]
  | var n z q h => rw [clD_var h, clD_var (hs z q h)]
  | nil n => rw [clD_nil, clD_nil]
  | tup n w r h1 h2 h3 h4 ih =>
    rw [clD_tup h2, clD_tup h2]
    congr 2
    exact List.map_congr_left fun x hx => ih x hx
def letsAll : List Ent → List (Key × V)
  | [] => []
  | e :: es => match letNm e.2 with
    | some z => (.inr z, .int e.1) :: letsAll es
    | none => letsAll es
theorem letsAll_append : ∀ a b : List Ent, letsAll (a ++ b) = letsAll a ++ letsAll b
  | [], _ => rfl
  | e :: a, b => by
    rw [List.cons_append, letsAll, letsAll, letsAll_append a b]
    cases letNm e.2 <;> rfl
theorem letsAll_len : ∀ a : List Ent, (letsAll a).length ≤ a.length
  | [] => Nat.le_refl _
  | e :: a => by
    have := letsAll_len a
    rw [letsAll]
    split
    · rw [List.length_cons, List.length_cons]; omega
    · rw [List.length_cons]; omega
theorem letsOf_all' {lo hi : Int} : ∀ {a : List Ent}, (∀ e, e ∈ a → lo ≤ e.1 ∧ e.1 < hi) → letsOf lo hi a = letsAll a
  | [], _ => rfl
  | e :: a, h => by
    rw [letsOf, letsAll, if_pos (h e List.mem_cons_self), letsOf_all' fun x hx => h x (List.mem_cons_of_mem _ hx)]
    all_goals rfl
theorem letsOf_none {lo hi : Int} : ∀ {a : List Ent}, (∀ e, e ∈ a → e.1 < lo) → letsOf lo hi a = []
  | [], _ => rfl
  | e :: a, h => by
    have := h e List.mem_cons_self
    rw [letsOf, if_neg (by omega), letsOf_none fun x hx => h x (List.mem_cons_of_mem _ hx)]
theorem letsAll_mem {z : Str} {e : Ent} (h : letNm e.2 = some z) : ∀ {a : List Ent}, e ∈ a → (Sum.inr z : Key) ∈ (letsAll a).map (·.1)
  | [], h' => (nomatch h')
  | x :: a, h' => by
    rw [letsAll]
    rcases List.mem_cons.mp h' with rfl | h'
    · rw [h]
      exact List.mem_cons_self
    · have := letsAll_mem h h'
      split
      · exact List.mem_cons_of_mem _ this
      · exact this
theorem merge_in {k : Key} : ∀ {l : List (Key × V)}, k ∈ l.map (·.1) → ∀ kvs kvs' : List (Key × V), valV (mergeK kvs l) k = valV (mergeK kvs' l) k ∧ ∃ p, p ∈ l ∧ p.1 = k ∧ valV (mergeK kvs l) k = some p.2 := by
  intro l
  induction l with
  | nil => exact fun h => (nomatch h)
  | cons p l ih =>
    intro h kvs kvs'
    show valV (mergeK (putK kvs p.1 p.2) l) k = valV (mergeK (putK kvs' p.1 p.2) l) k ∧ ∃ q, q ∈ p :: l ∧ q.1 = k ∧ valV (mergeK (putK kvs p.1 p.2) l) k = some q.2
    by_cases hin : k ∈ l.map (·.1)
    · obtain ⟨h1, q, h2, h3, h4⟩ := ih hin (putK kvs p.1 p.2) (putK kvs' p.1 p.2)
      exact ⟨h1, q, List.mem_cons_of_mem _ h2, h3, h4⟩
    · have out : ∀ (l : List (Key × V)) (kvs : List (Key × V)), k ∉ l.map (·.1) → valV (mergeK kvs l) k = valV kvs k := by
        intro l
        induction l with
        | nil => exact fun _ _ => rfl
        | cons q l ih2 =>
          intro kvs h
          rw [List.map_cons, List.mem_cons, not_or] at h
          show valV (mergeK (putK kvs q.1 q.2) l) k = _
          rw [ih2 _ h.2, valV_put, if_neg h.1]
      have hp : p.1 = k := by
        rcases List.mem_cons.mp (show k ∈ p.1 :: l.map (·.1) from h) with h | h
        · exact h.symm
        · exact absurd h hin
      rw [out l _ hin, out l _ hin, valV_put, valV_put, if_pos hp.symm, if_pos hp.symm]
      exact ⟨rfl, p, List.mem_cons_self, hp, rfl⟩
/-- an entry of a log that was drawn -/
def EntOk (ms : List Int) (es : List Ent) (ts cs : List Str) (i : Nat) (e : Ent) : Prop := ∃ (sc : List Str) (lo : Int) (i0 : Nat), StX ts cs sc e.2 ∧ LowM ms e.1 lo ∧ i0 ≤ i ∧ (∀ e', e' ∈ es.take i0 → e'.1 < lo) ∧ (∀ e', e' ∈ (es.take i).drop i0 → lo ≤ e'.1 ∧ e'.1 < e.1) ∧ ∀ z, z ∈ sc → ∃ e', e' ∈ (es.take i).drop i0 ∧ letNm e'.2 = some z
def lzLaw (a : List Ent) : Str → Option Int := lzK (mergeK [] (letsAll a))
theorem letsAll_pos : ∀ {a : List Ent} {p : Key × V}, p ∈ letsAll a → ∃ z e, e ∈ a ∧ p = (.inr z, .int e.1)
  | [], p, h => (nomatch h)
  | e :: a, p, h => by
    rw [letsAll] at h
    split at h
    · rename_i z _
      rcases List.mem_cons.mp h with rfl | h
      · exact ⟨z, e, List.mem_cons_self, rfl⟩
      · obtain ⟨z, e', h1, h2⟩ := letsAll_pos h
        exact ⟨z, e', List.mem_cons_of_mem _ h1, h2⟩
    · obtain ⟨z, e', h1, h2⟩ := letsAll_pos h
      exact ⟨z, e', List.mem_cons_of_mem _ h1, h2⟩
/-- the law's lets and the program's agree where a statement sees them -/
theorem scope_ok {es : List Ent} {lo : Int} {i i0 : Nat} {e : Ent} (ha : (es.map (·.1)).Pairwise (· < ·)) (he : es[i]? = some e) (hi : i0 ≤ i) (h1 : ∀ e', e' ∈ es.take i0 → e'.1 < lo) (h2 : ∀ e', e' ∈ (es.take i).drop i0 → lo ≤ e'.1 ∧ e'.1 < e.1) {z : Str} (hz : ∃ e', e' ∈ (es.take i).drop i0 ∧ letNm e'.2 = some z) :
    ∃ q, lzLaw (es.take i) z = some q ∧ lzOf lo e.1 es z = some q ∧ ∃ e', e' ∈ es ∧ q = e'.1 := by
  obtain ⟨e', hm, hl⟩ := hz
  have hsplit : es.take i = es.take i0 ++ (es.take i).drop i0 := by
    have := (List.take_append_drop i0 (es.take i)).symm
    rw [List.take_take, Nat.min_eq_left hi] at this
    exact this
  have hk := letsAll_mem hl hm
  have hof : letsOf lo e.1 es = letsAll ((es.take i).drop i0) := by
    rw [lets_cut ha he (show e.1 < e.1 + 1 by omega)]
    rw [hsplit, lets_append, letsOf_none h1, List.nil_append]
    rw [← hsplit]
    exact letsOf_all' fun x hx => ⟨(h2 x hx).1, by have := (h2 x hx).2; omega⟩
  have hlaw : mergeK [] (letsAll (es.take i)) = mergeK (mergeK [] (letsAll (es.take i0))) (letsAll ((es.take i).drop i0)) := by
    rw [show letsAll (es.take i) = letsAll (es.take i0) ++ letsAll ((es.take i).drop i0) by rw [← letsAll_append, ← hsplit]]
    unfold mergeK
    rw [List.foldl_append]
  obtain ⟨g1, p, g2, g3, g4⟩ := merge_in hk [] (mergeK [] (letsAll (es.take i0)))
  obtain ⟨z', e2, m1, m2⟩ := letsAll_pos g2
  subst m2
  refine ⟨e2.1, ?_, ?_, e2, List.mem_of_mem_take (List.mem_of_mem_drop m1), rfl⟩
  · unfold lzLaw lzK
    rw [hlaw, ← g1, g4]
  · unfold lzOf lzK
    rw [hof, g4]
theorem closed_same {es : List Ent} {ts cs sc : List Str} {lo : Int} {i : Nat} {e : Ent} (hx : StX ts cs sc e.2) (h : ∀ z, z ∈ sc → ∃ q, lzLaw (es.take i) z = some q ∧ lzOf lo e.1 es z = some q) : clD (lzLaw (es.take i)) 14 e.2 = clD (lzOf lo e.1 es) 14 e.2 := by
  have hR := (hx.cw (lz := fun z => if z ∈ sc then lzOf lo e.1 es z else none) (fun z hz => by
    obtain ⟨q, _, h2⟩ := h z hz
    exact ⟨q, by show (if z ∈ sc then _ else _) = _; rw [if_pos hz, h2]⟩)).1
  have sub : ∀ z q, (fun z => if z ∈ sc then lzOf lo e.1 es z else none) z = some q → z ∈ sc ∧ lzOf lo e.1 es z = some q := by
    intro z q hq
    by_cases hz : z ∈ sc
    · have : (if z ∈ sc then lzOf lo e.1 es z else none) = some q := hq
      rw [if_pos hz] at this
      exact ⟨hz, this⟩
    · have : (if z ∈ sc then lzOf lo e.1 es z else none) = some q := hq
      rw [if_neg hz] at this
      cases this
  rw [hR.congr (lz' := lzLaw (es.take i)) fun z q hq => ?_, hR.congr (lz' := lzOf lo e.1 es) fun z q hq => (sub z q hq).2]
  obtain ⟨a, b⟩ := sub z q hq
  obtain ⟨q', c1, c2⟩ := h z a
  rw [b] at c2
  rw [c1, c2]
end L41

namespace L41
open PySem PySem.Spec PyProof.Rows L2 GR WX TX UA RZ
/-- a log that was drawn -/
structure GoodL (ms : List Int) (es : List Ent) (ts cs : List Str) : Prop where
  asc : (es.map (·.1)).Pairwise (· < ·)
  msl : ms.length ≤ 6
  esl : es.length ≤ 30
  ent : ∀ i e, es[i]? = some e → EntOk ms es ts cs i e
  bd : ∀ e, e ∈ es → 0 ≤ e.1 ∧ e.1 ≤ 100
/-- its rows, closed -/
def rowsD (es : List Ent) : List Ent := es.mapIdx fun i e => (e.1, clD (lzLaw (es.take i)) 14 e.2)
theorem rowsD_at {es : List Ent} {i : Nat} {e : Ent} (h : es[i]? = some e) : (rowsD es)[i]? = some (e.1, clD (lzLaw (es.take i)) 14 e.2) := by
  unfold rowsD
  rw [List.getElem?_mapIdx, h]
  rfl
theorem rowsD_len (es : List Ent) : (rowsD es).length = es.length := by
  unfold rowsD
  rw [List.length_mapIdx]
theorem rowsD_pos (es : List Ent) : (rowsD es).map (·.1) = es.map (·.1) := by
  apply List.ext_getElem?
  intro i
  rw [List.getElem?_map, List.getElem?_map]
  cases h : es[i]? with
  | none =>
    have : (rowsD es)[i]? = none := by
      rw [List.getElem?_eq_none_iff] at h ⊢
      rw [rowsD_len]
      exact h
    rw [this]
  | some e =>
    rw [rowsD_at h]
    rfl
theorem GoodL.cw {ms : List Int} {es : List Ent} {ts cs : List Str} (G : GoodL ms es ts cs) {i : Nat} {e : Ent} (h : es[i]? = some e) : Cw (lzLaw (es.take i)) 14 e.2 := by
  obtain ⟨sc, lo, i0, hx, _, h1, h2, h3, h4⟩ := G.ent i e h
  exact (hx.cw fun z hz => by
    obtain ⟨q, g, _⟩ := scope_ok G.asc h h1 h2 h3 (h4 z hz)
    exact ⟨q, g⟩).1
theorem GoodL.flatR {ms : List Int} {es : List Ent} {ts cs : List Str} (G : GoodL ms es ts cs) (hf : flatDs (es.map (·.2)) = true) : flatDs ((rowsD es).map (·.2)) = true := flatDs_of fun y hy => by
  obtain ⟨x, hx, rfl⟩ := List.mem_map.mp hy
  obtain ⟨i, hi⟩ := List.mem_iff_getElem?.mp hx
  cases h : es[i]? with
  | none =>
    have : (rowsD es)[i]? = none := by
      rw [List.getElem?_eq_none_iff] at h ⊢
      rw [rowsD_len]
      exact h
    rw [this] at hi
    cases hi
  | some e =>
    rw [rowsD_at h] at hi
    cases hi
    exact clD_flat (G.cw h) (flatDs_at hf (show (es.map (·.2))[i]? = some e.2 by rw [List.getElem?_map, h]; rfl))
section
variable {P : Program} {w : World} {K : PySem.W.Frag} {mg : Str → Option Value} {base : Heap}
abbrev s_law_rows : Stmt := topS 54
abbrev N_ro : List Str := ["_law_made_here", "_law_rows_here", "_law_lets", "_law_p", "_law_row"]
theorem sc_law_rows : FnScope N_ro ["_law_made_here"] (defScope s_law_rows) := ⟨rfl, rfl, rfl, by decide +kernel, rfl, by decide +kernel, by decide +kernel⟩
def sp_ro (K : PySem.W.Frag) : Sp := fun vs H Q _ => ∃ (p : Addr) (ms : List Int) (es : List Ent) (ts cs : List Str), vs = [.ref p] ∧ LgD K H p ms es ∧ GoodL ms es ts cs ∧ ∀ H' d kvs, Same H H' → H' d = some (.dK kvs) → StmR K H' kvs (rowsD es) → Q (.ref d) H'
theorem ok_rows {f fc : Addr} {fd fdc : FuncData} {k : Nat} (F : Fun K "_law_rows" "_law_rows" s_law_rows f fd) (G : FnOk P w K mg base CX0 k fc fdc ["_law_thing", "_law_lets"] (sp_cl K 14)) (g : mg "_law_closed" = some (.ref fc)) (Kf : PySem.W.keepIn K (.ref fc) = true) (b : Binds K fdc ["_law_thing", "_law_lets"] []) :
    FnOk P w K mg base CX0 (k + 1) f fd ["_law_made_here"] (sp_ro K) := by
  have nd := sc_law_rows.nd
  refine F.ok sc_law_rows (fun vs H Q E h => ?_) (fun cdv A outer s H vs Q E hr h => ?_)
  · obtain ⟨p, ms, es, ts, cs, rfl, _⟩ := h
    rfl
  obtain ⟨p, ms, es, ts, cs, rfl, hL, hG, q⟩ := h
  have hu1 := hu_of hr
  obtain ⟨mp, ep, rs, h1, h2, h3, h4⟩ := hL.parts
  have fe := flat_eds hL.fl
  have fl := hL.fl
  have fr := hG.flatR fl
  have hes := hG.esl
  refine ⟨_, (pss_cons (ps_set (i := 1) nd rfl (.inl rfl) pe_dnewK)
      (pss_cons (ps_set (i := 2) nd rfl (.inl rfl) pe_dnewK)
      (pss_cons (ps_for PassesOwn.never rfl (pi_tup (pe_ix ix_tup (pv 0) pe_int (fun _ _ => rfl))) (pg_tup rfl (pgs_cons (pg_name (i := 3) nd rfl (Or.inl rfl)) (pgs_cons (pg_name (i := 4) nd rfl (Or.inl rfl)) pgs_nil)))
      (pss_cons (ps_dput hu1 (pv 1) (pv 3) (pe_call G hr (by rfl) g Kf b .nil pass0 (pa_cons (pv 4) (pa_cons (pv 2) pa_nil))) (by rfl))
        (pss_one (ps_if (pt_cmpR op_eq (pe_ix ix_tup (pv 4) pe_int (fun _ _ => rfl)) pe_str (nomark _))
        (pss_one (ps_dput hu1 (pv 2) (pe_ix ix_tup (pv 4) pe_int (fun _ _ => rfl)) (pv 3) (by rfl)))
        pss_nil))))
      (pss_one (ps_ret (pv 1)))))), ?_⟩
  refine fun d nd1 => fun la nla => ?_
  have s1 := same_upd (o := .dK []) nd1
  have s2 := same_upd (o := .dK []) nla
  have hd0 : upd (upd H d (.dK [])) la (.dK []) d = some (.dK []) := s2 _ _ upd_same
  have hl0 : upd (upd H d (.dK [])) la (.dK []) la = some (.dK []) := upd_same
  have nlH : H la = none := s1.free nla
  have hdl : d ≠ la := fun z => by rw [← z, upd_same] at nla; cases nla
  have s12 := s1.trans s2
  revert hd0 hl0 s12
  clear s1 s2
  generalize upd (upd H d (.dK [])) la (.dK []) = H0
  intro hd0 hl0 s12
  have h31 := (KeepT.of s12).seqt h3
  refine ⟨.ref p, rfl, p, _, 1, .ref ep, rfl, rfl, (KeepT.of s12).seqt h1, at1, ep, rfl, ⟨_, h31⟩, ?_⟩
  have h41 := dp_keepAll (KeepT.of s12) _ _ fe h4
  have ktd : ∀ {H' : Hp}, (∀ b o, b ≠ d → b ≠ la → H0 b = some o → H' b = some o) → KeepT H0 H' := fun {H'} kk => ⟨fun b xs e => kk b _ (fun z => by rw [z, hd0] at e; cases e) (fun z => by rw [z, hl0] at e; cases e) e, fun b o xs e => kk b _ (fun z => by rw [z, hd0] at e; cases e) (fun z => by rw [z, hl0] at e; cases e) e⟩
  refine for_tup (xs := rs) (fun i σ H' => ∃ (y3 y4 : Option V) (kvs : List (Key × V)), σ = [some (.ref p), some (.ref d), some (.ref la), y3, y4] ∧ H' d = some (.dK kvs) ∧ StmR K H' kvs ((rowsD es).take i) ∧ H' la = some (.dK (mergeK [] (letsAll (es.take i)))) ∧ ∀ b o, b ≠ d → b ≠ la → H0 b = some o → H' b = some o) ?_ ?_ ?_ ?_
  · refine ⟨none, none, [], rfl, hd0, ?_, ?_, fun b o _ _ e => e⟩
    · rw [List.take_zero]
      exact .nil
    · rw [List.take_zero]
      exact hl0
  · rintro i σ H' _ ⟨y3, y4, kvs, rfl, hd, hR, hl, kk⟩
    exact (ktd kk).seqt h31
  · rintro i x σ H' hx ⟨y3, y4, kvs, rfl, hd, hR, hl, kk⟩
    have kt := ktd kk
    obtain ⟨e, he, r, u, rfl, h6, h7⟩ := ent_at (dp_keepAll kt _ _ fe h41) hx
    have hi : i < es.length := (List.getElem?_eq_some_iff.mp he).1
    have fx : flatD e.2 = true := flatDs_at fl (show (es.map (·.2))[i]? = some e.2 by rw [List.getElem?_map, he]; rfl)
    have cw := hG.cw he
    refine ⟨r, _, rfl, h6, rfl, _, _, rfl, _, _, rfl, rfl, ?_⟩
    refine ⟨u, rfl, .ref la, rfl, u, e.2, la, _, lzLaw (es.take i), rfl, h7, fx, cw, hl, fun z q hq => ?_, fun H2 v2 s2 hv2 => ?_⟩
    · unfold lzLaw lzK at hq
      split at hq
      · rename_i q' hq'
        cases hq
        exact hq'
      · cases hq
    have lk : kvs.length = i := by
      have z := Paired.length hR
      rw [List.length_take, rowsD_len] at z
      omega
    have hno : valV kvs (.inl e.1) = none := by
      rcases stm_val (pl := e.1) hR with ⟨h, _⟩ | ⟨v, e', _, hm, hp, _⟩
      · exact h
      · exfalso
        obtain ⟨j, hj⟩ := List.mem_iff_getElem?.mp hm
        rw [List.getElem?_take] at hj
        split at hj
        · rename_i hlt
          have a1 : (es.map (·.1))[j]? = some e'.1 := by rw [← rowsD_pos, List.getElem?_map, hj]; rfl
          have a2 : (es.map (·.1))[i]? = some e.1 := by rw [List.getElem?_map, he]; rfl
          have := List.pairwise_iff_getElem.mp hG.asc j i (List.getElem?_eq_some_iff.mp a1).1 (List.getElem?_eq_some_iff.mp a2).1 hlt
          rw [(List.getElem?_eq_some_iff.mp a1).2, (List.getElem?_eq_some_iff.mp a2).2] at this
          omega
        · cases hj
    have hd2 := s2 _ _ hd
    have hl2 := s2 _ _ hl
    refine ⟨.ref d, rfl, .int e.1, rfl, d, _, rfl, DPut.k (k := .inl e.1) hd2 (small1000 (by omega)), ?_⟩
    rw [putK_new _ hno]
    have kd : KeepT H2 (upd H2 d (.dK (kvs ++ [(.inl e.1, v2)]))) := KeepT.dk hd2
    have hd3 : upd H2 d (.dK (kvs ++ [(.inl e.1, v2)])) d = some (.dK (kvs ++ [(.inl e.1, v2)])) := upd_same
    have hl3 : upd H2 d (.dK (kvs ++ [(.inl e.1, v2)])) la = some (.dK (mergeK [] (letsAll (es.take i)))) := by rw [upd_ne hdl.symm]; exact hl2
    have hR3 : StmR K (upd H2 d (.dK (kvs ++ [(.inl e.1, v2)]))) (kvs ++ [(.inl e.1, v2)]) ((rowsD es).take (i + 1)) := by
      rw [take_next (rowsD_at he)]
      refine stm_snoc ⟨rfl, dp_keep kd _ _ (clD_flat cw fx) hv2⟩ (StmR.keep ((KeepT.of s2).trans kd) ?_ hR)
      rw [List.map_take]
      exact flatDs_take i fr
    have kk3 : ∀ b o, b ≠ d → b ≠ la → H0 b = some o → upd H2 d (.dK (kvs ++ [(.inl e.1, v2)])) b = some o := fun b o n1 n2 e => by
      rw [upd_ne n1]
      exact s2 _ _ (kk b o n1 n2 e)
    have h73 := dp_keep ((KeepT.of s2).trans kd) _ _ fx h7
    revert hd3 hl3 hR3 kk3 h73
    clear kd
    generalize upd H2 d (.dK (kvs ++ [(.inl e.1, v2)])) = H3
    intro hd3 hl3 hR3 kk3 h73
    obtain ⟨p', wd, vs', rfl, hp', hc⟩ := word_lets (hL.wo e (List.mem_of_getElem? he)) h73
    refine ⟨.ref p', rfl, p', _, 0, .str wd, rfl, rfl, hp', at0, rfl, _, rfl, ?_⟩
    have hla := letsAll_append (es.take i) [e]
    rw [← take_next he] at hla
    rcases hc with ⟨rfl, z, us, rfl, hz⟩ | ⟨hw, hz⟩
    · refine iteT ⟨.int e.1, rfl, .ref la, rfl, .ref p', rfl, p', _, 1, .str z, rfl, rfl, hp', at1, la, _, rfl, DPut.k (k := .inr z) hl3 (small1000 ?_), ?_⟩
      · have := merge_len (letsAll (es.take i))
        have h2 := letsAll_len (es.take i)
        rw [List.length_take] at h2
        omega
      have kl : KeepT H3 (upd H3 la (.dK (putK (mergeK [] (letsAll (es.take i))) (.inr z) (.int e.1)))) := KeepT.dk hl3
      refine ⟨_, _, kvs ++ [(.inl e.1, v2)], rfl, by rw [upd_ne hdl]; exact hd3, StmR.keep kl (by rw [List.map_take]; exact flatDs_take _ fr) hR3, ?_, fun b o n1 n2 e => by rw [upd_ne n2]; exact kk3 b o n1 n2 e⟩
      rw [hla, show letsAll [e] = [(.inr z, .int e.1)] by rw [letsAll, hz]; rfl, merge_snoc]
      exact upd_same
    · rw [decide_eq_false (fun z => hw (V.str.inj z))]
      refine iteF ⟨_, _, kvs ++ [(.inl e.1, v2)], rfl, hd3, hR3, ?_, kk3⟩
      rw [hla, show letsAll [e] = [] by rw [letsAll, hz]; rfl, List.append_nil]
      exact hl3
  · rintro σ H2 ⟨y3, y4, kvs, rfl, hd, hR, hl, kk⟩
    have hl' := dpAll_len h4
    rw [List.length_map] at hl'
    rw [hl', ← rowsD_len es, List.take_length] at hR
    exact ⟨.ref d, rfl, q H2 d kvs (fun b o e => kk b o (ne_of_none e nd1) (ne_of_none e nlH) (s12 _ _ e)) hd hR⟩
end
end L41

namespace L41
open PySem PySem.Spec PyProof.Rows L2 GR WX TX UA RZ
section
variable {X : L2.Cx}
def rNeM (K : PySem.W.Frag) : R2 := fun x y H Q => ∃ d e, Dp K H x d ∧ Dp K H y e ∧ d.canLay0 = true ∧ e.canLay0 = true ∧ e.depth ≤ 64 ∧ Q (.bl (!PyData.eqv d e)) H
theorem op_neM (hu : X.A.units + 64 < cLine) : OpR X (compareOp .NotEq) (rNeM X.K) := by
  intro pins s σ H x y v u Q I rx ry h
  obtain ⟨d, e, hd, he, sd, se, dp, q⟩ := h
  obtain ⟨as, r1⟩ := Dp.reads I d x v hd rx
  obtain ⟨bs, r2⟩ := Dp.reads I e y u he ry
  have hm : min d.depth e.depth ≤ e.depth := Nat.min_le_right _ _
  exact SeqAt.compareNe_reads r1 r2 sd se (by omega) ⟨.bl _, H, I, rfl, q⟩
end
/-! ### the law's own step -/
def wrL (w t c : Str) (a v : PyData) : PyData := .tuple [.str "if", if w = "each" then .tuple [.str "if", rowX t, a, intD 0] else .tuple [.str "=", keyD, a], v, .tuple [.str "cell", .str t, keyD, .str c]]
inductive RowK (pl : Int) : PyData → (PyData → List PyData → PyData) → Prop
  | let_ (z : Str) (E : PyData) : flatD E = true → RowK pl (.tuple [.str "let", .str z, E]) (mkG W2 (fL pl E))
  | wr (w t c : Str) (a v : PyData) : (w = "put" ∨ w = "each") → flatD a = true → flatD v = true → PyData.strOk t = true → PyData.strOk c = true → RowK pl (wrD w t c a v) (mkW (t, c) (wrL w t c a v) (adX w c a))
  | oth (w : Str) (r : List PyData) : w ≠ "let" → w ≠ "put" → w ≠ "each" → flatDs r = true → RowK pl (.tuple (.str w :: r)) chX
theorem pr_eqv {t c t' c' : Str} : PyData.eqv (.tuple [.str t, .str c]) (.tuple [.str t', .str c']) = decide ((t, c) = (t', c')) := by
  simp only [PyData.eqv, PyData.eqvAll, Bool.and_true]
  rw [Bool.eq_iff_iff, Bool.and_eq_true, beq_iff_eq, beq_iff_eq, decide_eq_true_eq, Prod.mk.injEq]
theorem pr_lay {t c : Str} (h1 : PyData.strOk t = true) (h2 : PyData.strOk c = true) : PyData.canLay0 (.tuple [.str t, .str c]) = true := by
  simp only [PyData.canLay0, PyData.canLayAll0, h1, h2, Bool.and_true]
theorem pr_depth {t c : Str} : PyData.depth (.tuple [.str t, .str c]) ≤ 64 := by
  simp only [PyData.depth, PyData.depthAll]
  omega
section
variable {P : Program} {w : World} {K : PySem.W.Frag} {mg : Str → Option Value} {base : Heap}
abbrev s_law_led_cell : Stmt := topS 55
abbrev N_lc : List Str := ["_law_row", "_law_thing", "_law_key", "_law_hit"]
theorem sc_law_led_cell : FnScope N_lc ["_law_row", "_law_thing", "_law_key"] (defScope s_law_led_cell) := ⟨rfl, rfl, rfl, by decide +kernel, rfl, by decide +kernel, by decide +kernel⟩
def sp_lc (K : PySem.W.Frag) : Sp := fun vs H Q _ => ∃ (vr v vk : V) (pl : Int) (r x kd : PyData) (t z : Str) (mk : PyData → List PyData → PyData), vs = [vr, v, vk] ∧ Dp K H vr r ∧ RowK pl r mk ∧ Dp K H v (.tuple [.str "cell", .str t, x, .str z]) ∧ PyData.strOk t = true ∧ PyData.strOk z = true ∧ Dp K H vk kd ∧ flatD kd = true ∧
  ∀ H' v', Same H H' → Dp K H' v' (mk (.tuple [.str "cell", .str t, x, .str z]) [kd]) → Q v' H'
theorem ok_led_cell {f : Addr} {fd : FuncData} {k : Nat} (F : Fun K "_law_led_cell" "_law_led_cell" s_law_led_cell f fd) : FnOk P w K mg base CX0 (k + 1) f fd ["_law_row", "_law_thing", "_law_key"] (sp_lc K) := by
  have nd := sc_law_led_cell.nd
  refine F.ok sc_law_led_cell (fun vs H Q E h => ?_) (fun cdv A outer s H vs Q E hr h => ?_)
  · obtain ⟨vr, v, vk, pl, r, x, kd, t, z, mk, rfl, _⟩ := h
    rfl
  obtain ⟨vr, v, vk, pl, r, x, kd, t, z, mk, rfl, hdr, hrk, hd, ht, hz, hk, hkf, q⟩ := h
  refine ⟨_, (pss_cons (ps_if (PW.pt (pw_or (pt_cmpR op_notIn_seq (pe_ix ix_tup (pv 0) pe_int (fun _ _ => rfl)) (pe_tup (pa_cons pe_str (pa_cons pe_str pa_nil))) (by rfl)) (pw_or1 (pt_cmpR (op_neM hr.units) (pe_tup (pa_cons (pe_ix ix_tup (pv 0) pe_int (fun _ _ => rfl)) (pa_cons (pe_ix ix_tup (pv 0) pe_int (fun _ _ => rfl)) pa_nil))) (pe_tup (pa_cons (pe_ix ix_tup (pv 1) pe_int (fun _ _ => rfl)) (pa_cons (pe_ix ix_tup (pv 1) pe_int (fun _ _ => rfl)) pa_nil))) (nomark _)))))
      (pss_one (ps_ret (pe_tup (pa_cons pe_str (pa_cons (pe_ix ix_tup (pv 1) pe_int (fun _ _ => rfl)) (pa_cons (pv 2) (pa_cons (pe_ix ix_tup (pv 1) pe_int (fun _ _ => rfl)) pa_nil)))))))
      pss_nil)
      (pss_cons (ps_set (i := 3) nd rfl (.inl rfl) (pe_tup (pa_cons pe_str (pa_cons (pe_tup (pa_cons pe_str pa_nil)) (pa_cons (pe_ix ix_tup (pv 0) pe_int (fun _ _ => rfl)) pa_nil)))))
      (pss_cons (ps_if (pt_cmpR op_eq (pe_ix ix_tup (pv 0) pe_int (fun _ _ => rfl)) pe_str (nomark _))
      (pss_one (ps_set (i := 3) nd rfl (.inl rfl) (pe_tup (pa_cons pe_str (pa_cons (pe_tup (pa_cons pe_str (pa_cons (pe_ix ix_tup (pv 1) pe_int (fun _ _ => rfl)) (pa_cons (pe_tup (pa_cons pe_str pa_nil)) (pa_cons pe_str pa_nil))))) (pa_cons (pe_ix ix_tup (pv 0) pe_int (fun _ _ => rfl)) (pa_cons (pe_tup (pa_cons pe_str (pa_cons pe_int pa_nil))) pa_nil)))))))
      pss_nil)
      (pss_one (ps_ret (pe_tup (pa_cons pe_str (pa_cons (pv 2) (pa_cons (pe_tup (pa_cons pe_str (pa_cons (pv 3) (pa_cons (pe_ix ix_tup (pv 0) pe_int (fun _ _ => rfl)) (pa_cons (pe_tup (pa_cons pe_str (pa_cons (pe_ix ix_tup (pv 1) pe_int (fun _ _ => rfl)) (pa_cons (pe_tup (pa_cons pe_str pa_nil)) (pa_cons (pe_ix ix_tup (pv 1) pe_int (fun _ _ => rfl)) pa_nil))))) pa_nil))))) pa_nil))))))))), ?_⟩
  -- the thing
  cases hd with
  | @tup b _ _ hS hA =>
  cases hA with
  | cons g0 hA =>
  cases g0
  cases hA with
  | cons g1 hA =>
  cases g1
  cases hA with
  | @cons vx _ _ _ g2 hA =>
  cases hA with
  | cons g3 hA =>
  cases g3
  cases hA
  have plain : ∀ H1, Same H H1 → mk (.tuple [.str "cell", .str t, x, .str z]) [kd] = .tuple [.str "cell", .str t, kd, .str z] → ∀ p, H1 p = none → Q (.ref p) (upd H1 p (.tup [.str "cell", .str t, vk, .str z])) := fun H1 s1 e p np => by
    refine q _ _ (s1.trans (same_upd np)) ?_
    rw [e]
    exact new_tup (.cons (.str _) (.cons (.str t) (.cons (dp_keep (KeepT.of s1) _ _ hkf hk) (.cons (.str z) .nil)))) (by simp only [flatDs, flatD, hkf, Bool.and_self]) np
  have refl_ : chX (.tuple [.str "cell", .str t, x, .str z]) [kd] = .tuple [.str "cell", .str t, kd, .str z] := by
    unfold chX
    rw [if_neg (show ¬ [kd].isEmpty = true from Bool.false_ne_true), fill_cell]
  have flat2 : ∀ {H0 H1 : Hp}, Same H0 H1 → True := fun _ => trivial
  -- a row of another word
  have other : ∀ (a : Addr) (wd : Str) (us : List V), SqT K H a (.str wd :: us) → wd ≠ "put" → wd ≠ "each" → mk (.tuple [.str "cell", .str t, x, .str z]) [kd] = .tuple [.str "cell", .str t, kd, .str z] →
      ∀ p1, H p1 = none → inV (.str wd) ((["put", "each"] : List Str).map V.str) = false ∧ ∀ p, upd H p1 (.tup [.str "put", .str "each"]) p = none → Q (.ref p) (upd (upd H p1 (.tup [.str "put", .str "each"])) p (.tup [.str "cell", .str t, vk, .str z])) := by
    intro a wd us hSr h1 h2 e p1 n1
    refine ⟨?_, plain _ (same_upd n1) e⟩
    rw [wanted_in]
    refine decide_eq_false fun h => ?_
    simp only [List.mem_cons, List.not_mem_nil, or_false] at h
    exact h.elim h1 h2
  cases hrk with
  | let_ zz E hE =>
    cases hdr with
    | @tup a _ _ hSr hAr =>
    cases hAr with
    | cons k0 hAr =>
    cases k0
    refine ⟨.ref a, rfl, a, _, 0, .str "let", rfl, rfl, hSr, at0, le2, fun p1 n1 => ?_⟩
    have s1 := same_upd (o := .tup [.str "put", .str "each"]) n1
    have e : mkG W2 (fL pl E) (.tuple [.str "cell", .str t, x, .str z]) [kd] = .tuple [.str "cell", .str t, kd, .str z] := by
      unfold mkG fL
      rw [if_neg (by simp [letD, PyData.eqv, PyData.eqvAll])]
      show (if [kd].isEmpty = true then _ else refillX W2 _ [kd]) = _
      rw [if_neg (show ¬ [kd].isEmpty = true from Bool.false_ne_true), fill_cell]
    obtain ⟨hin, hq⟩ := other a "let" _ hSr (by decide) (by decide) e p1 n1
    refine ⟨p1, (["put", "each"] : List Str).map V.str, rfl, .inr (.inl (.inl upd_same)), rfl, flat_strs _, _, rfl, ?_⟩
    rw [hin]
    have hS1 := (KeepT.of s1).seqt hS
    exact iteT ⟨.ref b, rfl, b, _, 1, .str t, rfl, rfl, hS1, at1, vk, rfl, .ref b, rfl, b, _, 3, .str z, rfl, rfl, hS1, at3, h1000 (show 4 ≤ 1000 by decide), hq⟩
  | oth wd r h1 h2 h3 h4 =>
    cases hdr with
    | @tup a _ _ hSr hAr =>
    cases hAr with
    | cons k0 hAr =>
    cases k0
    refine ⟨.ref a, rfl, a, _, 0, .str wd, rfl, rfl, hSr, at0, le2, fun p1 n1 => ?_⟩
    have s1 := same_upd (o := .tup [.str "put", .str "each"]) n1
    obtain ⟨hin, hq⟩ := other a wd _ hSr h2 h3 refl_ p1 n1
    refine ⟨p1, (["put", "each"] : List Str).map V.str, rfl, .inr (.inl (.inl upd_same)), rfl, flat_strs _, _, rfl, ?_⟩
    rw [hin]
    have hS1 := (KeepT.of s1).seqt hS
    exact iteT ⟨.ref b, rfl, b, _, 1, .str t, rfl, rfl, hS1, at1, vk, rfl, .ref b, rfl, b, _, 3, .str z, rfl, rfl, hS1, at3, h1000 (show 4 ≤ 1000 by decide), hq⟩
  | wr wd t' c' a u hw ha hu h1 h2 =>
    unfold wrD at hdr
    cases hdr with
    | @tup ra _ _ hSr hAr =>
    cases hAr with
    | cons k0 hAr =>
    cases k0
    cases hAr with
    | cons k1 hAr =>
    cases k1
    cases hAr with
    | @cons va _ _ _ k2 hAr =>
    cases hAr with
    | cons k3 hAr =>
    cases k3
    cases hAr with
    | @cons vu _ _ _ k4 hAr =>
    cases hAr
    refine ⟨.ref ra, rfl, ra, _, 0, .str wd, rfl, rfl, hSr, at0, le2, fun p1 n1 => ?_⟩
    have s1 := same_upd (o := .tup [.str "put", .str "each"]) n1
    refine ⟨p1, (["put", "each"] : List Str).map V.str, rfl, .inr (.inl (.inl upd_same)), rfl, flat_strs _, _, rfl, ?_⟩
    have hin : inV (.str wd) ((["put", "each"] : List Str).map V.str) = true := by
      rw [wanted_in]
      refine decide_eq_true ?_
      rcases hw with rfl | rfl <;> decide
    rw [hin]
    clear hin
    have hS1 := (KeepT.of s1).seqt hS
    have hSr1 := (KeepT.of s1).seqt hSr
    revert s1 hS1 hSr1
    generalize upd H p1 (.tup [.str "put", .str "each"]) = H1
    intro s1 hS1 hSr1
    refine iteF ⟨.ref ra, rfl, ra, _, 1, .str t', rfl, rfl, hSr1, at1, .ref ra, rfl, ra, _, 3, .str c', rfl, rfl, hSr1, at3, le2, fun p2 n2 => ?_⟩
    have s2 := same_upd (o := .tup [.str t', .str c']) n2
    have hp2 : upd H1 p2 (.tup [.str t', .str c']) p2 = some (.tup [.str t', .str c']) := upd_same
    have hS2 := (KeepT.of s2).seqt hS1
    have hSr2 := (KeepT.of s2).seqt hSr1
    revert s2 hS2 hSr2 hp2
    generalize upd H1 p2 (.tup [.str t', .str c']) = H2
    intro s2 hp2 hS2 hSr2
    refine ⟨.ref b, rfl, b, _, 1, .str t, rfl, rfl, hS2, at1, .ref b, rfl, b, _, 3, .str z, rfl, rfl, hS2, at3, le2, fun p3 n3 => ?_⟩
    have s3 := same_upd (o := .tup [.str t, .str z]) n3
    have hp3 : Dp K (upd H2 p3 (.tup [.str t, .str z])) (.ref p3) (.tuple [.str t, .str z]) := new_tup (.cons (.str t) (.cons (.str z) .nil)) rfl n3
    have hp23 : Dp K (upd H2 p3 (.tup [.str t, .str z])) (.ref p2) (.tuple [.str t', .str c']) := .tup (.inl (.inl (s3 _ _ hp2))) (.cons (.str t') (.cons (.str c') .nil))
    have hS3 := (KeepT.of s3).seqt hS2
    have hSr3 := (KeepT.of s3).seqt hSr2
    revert s3 hp3 hp23 hS3 hSr3
    generalize upd H2 p3 (.tup [.str t, .str z]) = H3
    intro s3 hp3 hp23 hS3 hSr3
    refine ⟨_, _, hp23, hp3, pr_lay h1 h2, pr_lay ht hz, pr_depth, _, rfl, ?_⟩
    rw [pr_eqv]
    have s03 := s1.trans (s2.trans s3)
    by_cases hc : (t', c') = (t, z)
    · rw [decide_eq_true hc]
      have et : t' = t := (Prod.mk.inj hc).1
      have ec : c' = z := (Prod.mk.inj hc).2
      have e : mkW (t', c') (wrL wd t' c' a u) (adX wd c' a) (.tuple [.str "cell", .str t, x, .str z]) [kd] = .tuple [.str "at", kd, wrL wd t' c' a u] := by
        unfold mkW
        rw [if_pos ⟨rfl, by rw [col_cell, hc]⟩]
        rfl
      rw [e] at q
      have va3 := dp_keep (KeepT.of s03) _ _ ha k2
      have vu3 := dp_keep (KeepT.of s03) _ _ hu k4
      have vk3 := dp_keep (KeepT.of s03) _ _ hkf hk
      -- from the hit on
      have fin : ∀ H4 vh hd', Same H3 H4 → flatD hd' = true → Dp K H4 vh hd' → hd' = (if wd = "each" then .tuple [.str "if", rowX t', a, intD 0] else .tuple [.str "=", keyD, a]) → ∀ pk, H4 pk = none → ∀ pc, upd H4 pk (.tup [.str "key"]) pc = none → ∀ pi, upd (upd H4 pk (.tup [.str "key"])) pc (.tup [.str "cell", .str t, .ref pk, .str z]) pi = none →
          ∀ pa, upd (upd (upd H4 pk (.tup [.str "key"])) pc (.tup [.str "cell", .str t, .ref pk, .str z])) pi (.tup [.str "if", vh, vu, .ref pc]) pa = none → Q (.ref pa) (upd (upd (upd (upd H4 pk (.tup [.str "key"])) pc (.tup [.str "cell", .str t, .ref pk, .str z])) pi (.tup [.str "if", vh, vu, .ref pc])) pa (.tup [.str "at", vk, .ref pi])) := by
        intro H4 vh hd' s4 fh hvh eh pk nk pc nc pi ni pa na
        have t1 := same_upd (o := .tup [.str "key"]) nk
        have t2 := same_upd (o := .tup [.str "cell", .str t, .ref pk, .str z]) nc
        have t3 := same_upd (o := .tup [.str "if", vh, vu, .ref pc]) ni
        have t4 := same_upd (o := .tup [.str "at", vk, .ref pi]) na
        have d1 : Dp K (upd H4 pk (.tup [.str "key"])) (.ref pk) keyD := new_tup (.cons (.str "key") .nil) rfl nk
        have d2 := new_tup (K := K) (.cons (.str "cell") (.cons (.str t) (.cons d1 (.cons (.str z) .nil)))) rfl nc
        have d3 := new_tup (K := K) (.cons (.str "if") (.cons (dp_keep (KeepT.of (t1.trans t2)) _ _ fh hvh) (.cons (dp_keep (KeepT.of (s4.trans (t1.trans t2))) _ _ hu vu3) (.cons d2 .nil)))) (by simp only [flatDs, flatD, fh, hu, keyD, Bool.and_self]) ni
        refine q _ _ (s03.trans (s4.trans (t1.trans (t2.trans (t3.trans t4))))) ?_
        have ew : wrL wd t' c' a u = .tuple [.str "if", hd', u, .tuple [.str "cell", .str t, keyD, .str z]] := by
          unfold wrL
          rw [← eh, et, ec]
        rw [ew]
        exact new_tup (.cons (.str "at") (.cons (dp_keep (KeepT.of (s4.trans (t1.trans (t2.trans t3)))) _ _ hkf vk3) (.cons d3 .nil))) (by simp only [flatDs, flatD, fh, hu, hkf, keyD, Bool.and_self]) na
      refine iteF ⟨h1000 (show 1 ≤ 1000 by decide), fun q1 m1 => ⟨.ref ra, rfl, ra, _, 2, va, rfl, rfl, (KeepT.of (same_upd m1)).seqt hSr3, at2, h1000 (show 3 ≤ 1000 by decide), fun q2 m2 => ?_⟩⟩
      have u1 := same_upd (o := .tup [.str "key"]) m1
      have u2 := same_upd (o := .tup [.str "=", .ref q1, va]) m2
      have dk : Dp K (upd H3 q1 (.tup [.str "key"])) (.ref q1) keyD := new_tup (.cons (.str "key") .nil) rfl m1
      have dh := new_tup (K := K) (.cons (.str "=") (.cons dk (.cons (dp_keep (KeepT.of u1) _ _ ha va3) .nil))) (by simp only [flatDs, flatD, ha, keyD, Bool.and_self]) m2
      have u12 := u1.trans u2
      revert u12 dh
      clear u2
      generalize upd (upd H3 q1 (.tup [.str "key"])) q2 (.tup [.str "=", .ref q1, va]) = H5
      intro dh u12
      have hS5 := (KeepT.of u12).seqt hS3
      have hSr5 := (KeepT.of u12).seqt hSr3
      refine ⟨.ref ra, rfl, ra, _, 0, .str wd, rfl, rfl, hSr5, at0, rfl, _, rfl, ?_⟩
      by_cases hwe : wd = "each"
      · rw [decide_eq_true (congrArg V.str hwe)]
        refine iteT ⟨.ref b, rfl, b, _, 1, .str t, rfl, rfl, hS5, at1, h1000 (show 1 ≤ 1000 by decide), fun q3 m3 => ⟨h1000 (show 4 ≤ 1000 by decide), fun q4 m4 => ?_⟩⟩
        have v1 := same_upd (o := .tup [.str "key"]) m3
        have v2 := same_upd (o := .tup [.str "cell", .str t, .ref q3, .str "in"]) m4
        have dk2 : Dp K (upd H5 q3 (.tup [.str "key"])) (.ref q3) keyD := new_tup (.cons (.str "key") .nil) rfl m3
        have dr := new_tup (K := K) (.cons (.str "cell") (.cons (.str t) (.cons dk2 (.cons (.str "in") .nil)))) rfl m4
        have v12 := v1.trans v2
        revert v12 dr
        clear v2
        generalize upd (upd H5 q3 (.tup [.str "key"])) q4 (.tup [.str "cell", .str t, .ref q3, .str "in"]) = H6
        intro dr v12
        refine ⟨.ref ra, rfl, ra, _, 2, va, rfl, rfl, (KeepT.of v12).seqt hSr5, at2, h1000 (show 2 ≤ 1000 by decide), fun q5 m5 => ⟨h1000 (show 4 ≤ 1000 by decide), fun q6 m6 => ?_⟩⟩
        have w1 := same_upd (o := .tup [.str "int", .int 0]) m5
        have w2 := same_upd (o := .tup [.str "if", .ref q4, va, .ref q5]) m6
        have d0 : Dp K (upd H6 q5 (.tup [.str "int", .int 0])) (.ref q5) (intD 0) := new_tup (.cons (.str "int") (.cons (.int 0) .nil)) rfl m5
        have dh2 := new_tup (K := K) (.cons (.str "if") (.cons (dp_keep (KeepT.of w1) _ _ rfl dr) (.cons (dp_keep (KeepT.of (u12.trans (v12.trans w1))) _ _ ha va3) (.cons d0 .nil)))) (by simp only [flatDs, flatD, ha, keyD, intD, Bool.and_self]) m6
        have w12 := w1.trans w2
        revert w12 dh2
        clear w2
        generalize upd (upd H6 q5 (.tup [.str "int", .int 0])) q6 (.tup [.str "if", .ref q4, va, .ref q5]) = H7
        intro dh2 w12
        have s37 := u12.trans (v12.trans w12)
        have hS7 := (KeepT.of s37).seqt hS3
        have hSr7 := (KeepT.of s37).seqt hSr3
        refine ⟨vk, rfl, .ref q6, rfl, .ref ra, rfl, ra, _, 4, vu, rfl, rfl, hSr7, atI_nat (j := 4) rfl, .ref b, rfl, b, _, 1, .str t, rfl, rfl, hS7, at1, h1000 (show 1 ≤ 1000 by decide), fun pk nk => ⟨.ref b, rfl, b, _, 3, .str z, rfl, rfl, (KeepT.of (same_upd nk)).seqt hS7, at3, h1000 (show 4 ≤ 1000 by decide), fun pc nc => ⟨h1000 (show 4 ≤ 1000 by decide), fun pi ni => ⟨h1000 (show 3 ≤ 1000 by decide), fun pa na => ?_⟩⟩⟩⟩
        exact fin H7 _ _ s37 (by simp only [flatDs, flatD, ha, keyD, intD, Bool.and_self]) dh2 (by rw [if_pos hwe, et]; rfl) pk nk pc nc pi ni pa na
      · rw [decide_eq_false (fun z => hwe (V.str.inj z))]
        refine iteF ⟨vk, rfl, .ref q2, rfl, .ref ra, rfl, ra, _, 4, vu, rfl, rfl, hSr5, atI_nat (j := 4) rfl, .ref b, rfl, b, _, 1, .str t, rfl, rfl, hS5, at1, h1000 (show 1 ≤ 1000 by decide), fun pk nk => ⟨.ref b, rfl, b, _, 3, .str z, rfl, rfl, (KeepT.of (same_upd nk)).seqt hS5, at3, h1000 (show 4 ≤ 1000 by decide), fun pc nc => ⟨h1000 (show 4 ≤ 1000 by decide), fun pi ni => ⟨h1000 (show 3 ≤ 1000 by decide), fun pa na => ?_⟩⟩⟩⟩
        exact fin H5 _ _ u12 (by simp only [flatDs, flatD, ha, keyD, Bool.and_self]) dh (by rw [if_neg hwe]) pk nk pc nc pi ni pa na
    · rw [decide_eq_false hc]
      have e : mkW (t', c') (wrL wd t' c' a u) (adX wd c' a) (.tuple [.str "cell", .str t, x, .str z]) [kd] = .tuple [.str "cell", .str t, kd, .str z] := by
        unfold mkW
        rw [if_neg (fun h => hc (by have := h.2; rw [col_cell] at this; exact (Option.some.inj this).symm)), if_neg (fun h => absurd h.1 (by decide : ¬ ("cell" : Str) ∈ aggW)), refl_]
      exact iteT ⟨.ref b, rfl, b, _, 1, .str t, rfl, rfl, hS3, at1, vk, rfl, .ref b, rfl, b, _, 3, .str z, rfl, rfl, hS3, at3, h1000 (show 4 ≤ 1000 by decide), plain H3 s03 e⟩
end
end L41

namespace L41
open PySem PySem.Spec PyProof.Rows L2 GR WX TX UA RZ
/-! ### the law leads over a row -/
def needD : PyData := .tuple [.str "need", .tuple [.str "int", .int 1]]
/-- what a step over the rows at pl makes -/
def RowM (rows : List Ent) (pl : Int) (r : PyData) (mk : PyData → List PyData → PyData) : Prop := RowK pl r mk ∧ ((∀ e, e ∈ rows → e.1 ≠ pl) ∧ r = needD ∨ (rows.map (·.1)).Nodup ∧ ∃ e, e ∈ rows ∧ e.1 = pl ∧ e.2 = r)
/-- no variable in it; its lets stand in the log -/
def PartsOk (pl : Int) (r : PyData) (n : Nat) (x : PyData) : Prop := ∀ y, y ∈ flatP n x → headW y ≠ "var" ∧ (y = letD pl → ∃ z E, r = .tuple [.str "let", .str z, E])
theorem PartsOk.kid {pl : Int} {r : PyData} {n : Nat} {x : PyData} (h : PartsOk pl r (n + 1) x) {y : PyData} (hy : y ∈ kids x) : PartsOk pl r n y := fun u hu => h u (by
  rw [flatP]
  exact List.mem_cons_of_mem _ (List.mem_flatMap.mpr ⟨y, hy, hu⟩))
theorem PartsOk.self {pl : Int} {r : PyData} {n : Nat} {x : PyData} (h : PartsOk pl r (n + 1) x) : headW x ≠ "var" ∧ (x = letD pl → ∃ z E, r = .tuple [.str "let", .str z, E]) := h x (by rw [flatP]; exact List.mem_cons_self)
theorem RowK.flat {pl : Int} {r : PyData} {mk : PyData → List PyData → PyData} (h : RowK pl r mk) : flatD r = true := by
  cases h with
  | let_ z E h => simp only [flatD, flatDs, h, Bool.and_self]
  | wr w t c a v hw h1 h2 _ _ =>
    unfold wrD
    simp only [flatD, flatDs, h1, h2, Bool.and_self]
  | oth w r _ _ _ h => simp only [flatD, flatDs, h, Bool.and_self]
theorem RowK.mkOk {pl : Int} {r : PyData} {mk : PyData → List PyData → PyData} (h : RowK pl r mk) {zs : List Str} {n : Nat} {y : PyData} {qs : List PyData} (hy : Ex zs n y) (hq : flatDs qs = true) : flatD (mk y qs) = true := by
  cases h with
  | let_ z E h => exact (mkOkL (K := []) h).flat zs n y qs hy hq
  | wr w t c a v hw h1 h2 _ _ =>
    refine (mkOkW (K := []) ?_ (flat_adX h1).1).flat zs n y qs hy hq
    unfold wrL
    split <;> simp only [flatD, flatDs, h1, h2, keyD, rowX, intD, Bool.and_self]
  | oth w r _ _ _ h => exact flat_chX hy hq
theorem RowK.fold_flat {pl : Int} {r : PyData} {mk : PyData → List PyData → PyData} (h : RowK pl r mk) {zs : List Str} {n : Nat} {x : PyData} (hx : Ex zs n x) : flatD (foldE W2 mk n x) = true :=
  flat_fold (W := W2) (fun _ h => h) (fun n y qs hy hq => h.mkOk hy hq) hx
/-- a part with nothing in it, and no let at pl -/
theorem RowK.leaf {pl : Int} {r : PyData} {mk : PyData → List PyData → PyData} (h : RowK pl r mk) {o : Str} {rest : List PyData} (ho : o ∉ aggW) (hc : o ≠ "cell") (hl : PyData.eqv (.tuple (.str o :: rest)) (letD pl) = false) : mk (.tuple (.str o :: rest)) [] = .tuple (.str o :: rest) := by
  cases h with
  | let_ z E h =>
    unfold mkG fL
    rw [hl, if_neg Bool.false_ne_true]
    rfl
  | wr w t c a v hw h1 h2 _ _ =>
    unfold mkW
    rw [if_neg (fun h => hc h.1), if_neg (fun h => ho h.1)]
    rfl
  | oth w r _ _ _ h => rfl
/-- another form: filled again -/
theorem RowK.refill {pl : Int} {r : PyData} {mk : PyData → List PyData → PyData} (h : RowK pl r mk) {o : Str} {rest qs : List PyData} (ho : o ∉ aggW) (hc : o ≠ "cell") (hl : o ≠ "let") : mk (.tuple (.str o :: rest)) qs = chX (.tuple (.str o :: rest)) qs := by
  cases h with
  | let_ z E h =>
    unfold mkG fL
    rw [if_neg (by
      unfold letD
      simp only [PyData.eqv, PyData.eqvAll, Bool.and_eq_true, beq_iff_eq, not_and]
      exact fun z => absurd z hl)]
    rfl
  | wr w t c a v hw h1 h2 _ _ =>
    unfold mkW
    rw [if_neg (fun h => hc h.1), if_neg (fun h => ho h.1)]
  | oth w r _ _ _ h => rfl
theorem ne_let {o : Str} {rest : List PyData} {pl : Int} (h : o ≠ "let") : PyData.eqv (.tuple (.str o :: rest)) (letD pl) = false := by
  unfold letD
  rw [Bool.eq_false_iff]
  simp only [PyData.eqv, PyData.eqvAll, ne_eq, Bool.and_eq_true, beq_iff_eq, not_and]
  exact fun z => absurd z h
theorem RowK.of_let {pl : Int} {z : Str} {E : PyData} {mk : PyData → List PyData → PyData} (h : RowK pl (.tuple [.str "let", .str z, E]) mk) : mk = mkG W2 (fL pl E) := by
  generalize hr : PyData.tuple [.str "let", .str z, E] = r at h
  cases h with
  | let_ z' E' h =>
    cases hr
    rfl
  | wr w t c a v hw _ _ _ _ =>
    unfold wrD at hr
    cases hr
  | oth w r h _ _ _ =>
    cases hr
    exact absurd rfl h
theorem ch_rest {zs : List Str} {n : Nat} {o : Str} {rest qs : List PyData} (h : Ex zs n (.tuple (.str o :: rest))) (h1 : o ∉ aggW) (h2 : o ≠ "cell") (h3 : o ∉ leafV) (hl : qs.length = rest.length) : chX (.tuple (.str o :: rest)) qs = .tuple (.str o :: qs) := by
  generalize hx : PyData.tuple (.str o :: rest) = x at h
  cases h with
  | leaf n x h => cases h <;> cases hx <;> exact absurd (by decide) h3
  | cell n t v x _ _ _ =>
    cases hx
    exact absurd rfl h2
  | op n o' x y ho _ _ =>
    cases hx
    match qs, hl with
    | [p, q], _ =>
      unfold chX
      rw [if_neg (by simp), fill_op ho]
  | iff n x y z _ _ _ =>
    cases hx
    match qs, hl with
    | [p, q, r], _ =>
      unfold chX
      rw [if_neg (by simp), fill_if]
  | agg n o' t xs ys h1' _ _ _ _ =>
    cases hx
    exact absurd (aggs_w h1').1 h1
/-- an aggregate led over -/
theorem RowK.agg {pl : Int} {r : PyData} {mk : PyData → List PyData → PyData} (h : RowK pl r mk) {o t : Str} {xs ys qa qb : List PyData} {y : PyData} {zs : List Str} {n : Nat} (ho : o ∈ aggW) (hag : (o, ys.length + 1) ∈ aggs) (hy : Ex zs n y) (la : qa.length = xs.length) (lb : qb.length = ys.length + 1) :
    (∀ w t' c a v, r = wrD w t' c a v → (w = "put" ∨ w = "each") → mk (.tuple (.str o :: .str t :: .tuple xs :: y :: ys)) (qa ++ qb) = .tuple (.str o :: .str t :: .tuple (qa ++ (if w = "put" ∧ (t', c) = (t, ("in" : Str)) then [a] else [])) :: qb)) ∧
    ((∀ w t' c a v, r = wrD w t' c a v → ¬ (w = "put" ∨ w = "each")) → mk (.tuple (.str o :: .str t :: .tuple xs :: y :: ys)) (qa ++ qb) = .tuple (.str o :: .str t :: .tuple (qa ++ []) :: qb)) := by
  have hl : o ≠ "let" := fun e => absurd (e ▸ ho) (by decide)
  have hch : chX (.tuple (.str o :: .str t :: .tuple xs :: y :: ys)) (qa ++ qb) = .tuple (.str o :: .str t :: .tuple qa :: qb) := by
    unfold chX
    rw [if_neg (by
      cases qb with
      | nil => simp at lb
      | cons _ _ => simp), fill_agg (ys := y :: ys) hag la (by rw [lb, List.length_cons])]
  have hcol : colOf (.tuple (.str o :: .str t :: .tuple xs :: y :: ys)) = some (t, ("in" : Str)) := col_agg ho hy
  cases h with
  | let_ z E h =>
    refine ⟨fun w t' c a v e _ => (by unfold wrD at e; cases e), fun _ => ?_⟩
    unfold mkG fL
    rw [ne_let hl, if_neg Bool.false_ne_true, List.append_nil]
    exact hch
  | oth w r h1 h2 h3 _ =>
    refine ⟨fun w' t' c a v e hw => ?_, fun _ => by rw [List.append_nil]; exact hch⟩
    unfold wrD at e
    cases e
    exact absurd hw (fun z => z.elim h2 h3)
  | wr w t' c a v hw _ _ _ _ =>
    refine ⟨fun w2 t2 c2 a2 v2 e _ => ?_, fun h => absurd hw (h w t' c a v rfl)⟩
    unfold wrD at e
    cases e
    unfold mkW
    rw [if_neg (fun h => absurd h.1 (agg_ne ho)), hch]
    by_cases ht : t' = t
    · subst ht
      rw [if_pos ⟨ho, hcol⟩]
      unfold addX adX
      by_cases hc : w = "put" ∧ c = "in"
      · rw [if_pos hc, if_pos ⟨hc.1, by rw [hc.2]⟩]
      · rw [if_neg hc, if_neg (fun h => hc ⟨h.1, (Prod.mk.inj h.2).2⟩)]
    · rw [if_neg (fun h => ht (by have := h.2; rw [hcol] at this; exact (Prod.mk.inj (Option.some.inj this)).1.symm)), if_neg (fun h => ht (Prod.mk.inj h.2).1), List.append_nil]
section
variable {P : Program} {w : World} {K : PySem.W.Frag} {mg : Str → Option Value} {base : Heap}
abbrev s_law_led : Stmt := topS 56
abbrev N_ld : List Str := ["_law_rows_here", "_law_thing", "_law_p", "_law_word", "_law_row", "_law_more", "_law_rest", "_law_part"]
abbrev ps_ld : List Str := ["_law_rows_here", "_law_thing", "_law_p"]
theorem sc_law_led : FnScope N_ld ps_ld (defScope s_law_led) := ⟨rfl, rfl, rfl, by decide +kernel, rfl, by decide +kernel, by decide +kernel⟩
def sp_ld (K : PySem.W.Frag) (n : Nat) : Sp := fun vs H Q _ => ∃ (d : Addr) (v : V) (pl : Int) (kvs : List (Key × V)) (rows : List Ent) (r x : PyData) (zs : List Str) (mk : PyData → List PyData → PyData), vs = [.ref d, v, .int pl] ∧ H d = some (.dK kvs) ∧ StmR K H kvs rows ∧ flatDs (rows.map (·.2)) = true ∧ Dp K H v x ∧ Ex zs n x ∧ NOks zs ∧ RowM rows pl r mk ∧ PartsOk pl r n x ∧
  ∀ H' v', Same H H' → Dp K H' v' (foldE W2 mk n x) → Q v' H'
/-- a walk that leads each part -/
theorem lc_led {n : Nat} {d D a : Addr} {pl : Int} {kvs : List (Key × V)} {rows : List Ent} {r : PyData} {zs : List Str} {mk : PyData → List PyData → PyData} {us : List V} {xs : List PyData} {H1 : Hp} {v1 v3 v4 : V} {o5 : Option V} {Qd : Hp → Prop} (hd : H1 d = some (.dK kvs)) (hst : StmR K H1 kvs rows) (hfr : flatDs (rows.map (·.2)) = true) (hS : SqT K H1 a us) (hA : DpAll K H1 us xs)
    (hfx : flatDs xs = true) (hl : xs.length ≤ 44) (he : ∀ y, y ∈ xs → Ex zs n y) (hzs : NOks zs) (hm : RowM rows pl r mk) (hp : ∀ y, y ∈ xs → PartsOk pl r n y) (nD : H1 D = none)
    (hQ : ∀ H2 acc, Same H1 H2 → H2 D = some (.lst acc) → DpAll K H2 acc (xs.map (foldE W2 mk n)) → Qd H2) :
    ∃ W : Nat → Nat → Hp → Prop, (∃ m, W 0 m (upd H1 D (.lst []))) ∧ ∀ i m H, W i m H → ((Itt K a).stop i H ∧ Qd H) ∨ ((Itt K a).go i H ∧ ∃ Nx : Hp → Prop, (∀ H', Nx H' → ∃ m', m' < m ∧ W (i + 1) m' H') ∧ ∀ x H', (Itt K a).yld i H x H' → gName 7 x (wipe [some (.ref d), some v1, some (.int pl), some v3, some v4, o5, none, none] [7]) H' fun σ2 H2 => wipe σ2 [7] = wipe [some (.ref d), some v1, some (.int pl), some v3, some v4, o5, none, none] [7] ∧ tYes σ2 H2 fun b H3 => if b = true then tCall (sp_ld K n) [] E0 (tCons (tVar 0) (tCons (tVar 7) (tCons (tVar 2) tNil))) σ2 H3 (fun y H4 => ∃ acc, H4 D = some (.lst acc) ∧ acc.length < sizeLine ∧ Nx (upd H4 D (.lst (acc ++ [y])))) else Nx H3) := by
  have lu := dpAll_len hA
  have hdD : d ≠ D := ne_of_none hd nD
  refine lc_tup (xs := us) (fun i H' => ∃ acc, H' D = some (.lst acc) ∧ acc.length = i ∧ DpAll K H' acc ((xs.take i).map (foldE W2 mk n)) ∧ ∀ b ob, b ≠ D → H1 b = some ob → H' b = some ob) ?_ ?_ ?_ ?_
  · refine ⟨[], upd_same, rfl, ?_, fun b ob nb e => by rw [upd_ne nb]; exact e⟩
    rw [List.take_zero]
    exact .nil
  · rintro i H' _ ⟨acc, _, _, _, kk⟩
    exact (KeepT.of (show Same H1 H' from fun b o e => kk b o (ne_of_none e nD) e)).seqt hS
  · rintro i u H' hu' ⟨acc, hD, hl', hP, kk⟩
    obtain ⟨y, hy, hyd⟩ := dpAll_at hA hu'
    have hi : i < us.length := (List.getElem?_eq_some_iff.mp hu').1
    have hmem := List.mem_of_getElem? hy
    have s1 : Same H1 H' := fun b o e => kk b o (ne_of_none e nD) e
    have kt := KeepT.of s1
    have fP : flatDs ((xs.take i).map (foldE W2 mk n)) = true := flatDs_of fun z hz => by
      obtain ⟨y', hy', rfl⟩ := List.mem_map.mp hz
      exact hm.1.fold_flat (he y' (List.mem_of_mem_take hy'))
    refine ⟨rfl, yes_then ⟨.ref d, rfl, u, rfl, .int pl, rfl, d, u, pl, kvs, rows, r, y, zs, mk, rfl, s1 _ _ hd, hst.keep kt hfr, hfr, (he y hmem).kept kt hyd, he y hmem, hzs, hm, hp y hmem, fun H2 v2 s2 hv2 => ?_⟩⟩
    have hD2 := s2 _ _ hD
    have kD : KeepT H2 (upd H2 D (.lst (acc ++ [v2]))) := KeepT.lst hD2
    refine ⟨acc, hD2, small1000 (by omega), acc ++ [v2], upd_same, by rw [List.length_append, hl']; rfl, ?_, fun b ob nb e => by rw [upd_ne nb]; exact s2 _ _ (kk b ob nb e)⟩
    rw [take_snoc hy, List.map_append]
    exact dpAll_app (dp_keepAll ((KeepT.of s2).trans kD) _ _ fP hP) (.cons (dp_keep kD _ _ (hm.1.fold_flat (he y hmem)) hv2) .nil)
  · rintro H2 ⟨acc, hD, hl', hP, kk⟩
    rw [lu, List.take_length] at hP
    exact hQ H2 acc (fun b o e => kk b o (ne_of_none e nD) e) hD hP
theorem ok_ld_step {n : Nat} {f fc : Addr} {fd fdc : FuncData} {k : Nat} (F : Fun K "_law_led" "_law_led" s_law_led f fd) (Gc : FnOk P w K mg base CX0 k fc fdc ["_law_row", "_law_thing", "_law_key"] (sp_lc K)) (gc : mg "_law_led_cell" = some (.ref fc)) (Kc : PySem.W.keepIn K (.ref fc) = true) (bc : Binds K fdc ["_law_row", "_law_thing", "_law_key"] [])
    (G : FnOk P w K mg base CX0 k f fd ps_ld (sp_ld K n)) (g : mg "_law_led" = some (.ref f)) (Kf : PySem.W.keepIn K (.ref f) = true) (b : Binds K fd ps_ld []) (mtuple : mg "tuple" = none) : FnOk P w K mg base CX0 (k + 1) f fd ps_ld (sp_ld K (n + 1)) := by
  have nd := sc_law_led.nd
  refine F.ok sc_law_led (fun vs H Q E h => ?_) (fun cdv A outer s H vs Q E hr h => ?_)
  · obtain ⟨d, v, pl, kvs, rows, r, x, zs, mk, rfl, _⟩ := h
    rfl
  obtain ⟨d, v, pl, kvs, rows, r, x, zs, mk, rfl, hdk, hst, hfr, hd, he, hzs, hm, hp, q⟩ := h
  have hu1 := hu_of hr
  refine ⟨_, (pss_cons (ps_set (i := 3) nd rfl (.inl rfl) (pe_ix ix_tup (pv 1) pe_int (fun _ _ => rfl)))
      (pss_cons (ps_set (i := 4) nd rfl (.inl rfl) (pe_dget2 hu1 (pv 0) (pv 2) (pe_tup (pa_cons pe_str (pa_cons (pe_tup (pa_cons pe_str (pa_cons pe_int pa_nil))) pa_nil))) ⟨by rfl, by rfl, by rfl, by rfl⟩))
      (pss_cons (ps_if (pt_cmpR op_eq (pv 3) pe_str (nomark _))
      (pss_one (ps_ret (pe_ifExp (pt_cmpR op_eq (pe_ix ix_tup (pv 1) pe_int (fun _ _ => rfl)) (pv 2) (nomark _)) (pe_ix ix_tup (pv 4) pe_int (fun _ _ => rfl)) (pv 1))))
      pss_nil)
      (pss_cons (ps_if (pt_cmpR op_in_seq (pv 3) (pe_tup (pa_cons pe_str (pa_cons pe_str pa_nil))) (by rfl))
      (pss_one (ps_ret (pv 1)))
      pss_nil)
      (pss_cons (ps_if (pt_cmpR op_eq (pv 3) pe_str (nomark _))
      (pss_one (ps_ret (pe_call Gc hr (by rfl) gc Kc bc .nil pass0 (pa_cons (pv 4) (pa_cons (pv 1) (pa_cons (pe_call G hr (by rfl) g Kf b .nil pass0 (pa_cons (pv 0) (pa_cons (pe_ix ix_tup (pv 1) pe_int (fun _ _ => rfl)) (pa_cons (pv 2) pa_nil)))) pa_nil))))))
      pss_nil)
      (pss_cons (ps_if (pt_cmpR op_in_seq (pv 3) (pe_tup (pa_cons pe_str (pa_cons pe_str (pa_cons pe_str (pa_cons pe_str pa_nil))))) (by rfl))
      (pss_cons (ps_setLc (i := 5) (own := [("_law_part", 7)]) (g := gName 7) (tt := tYes) (te := tCall (sp_ld K n) [] E0 (tCons (tVar 0) (tCons (tVar 7) (tCons (tVar 2) tNil)))) rfl nd rfl rfl (sw_true rfl rfl rfl (by decide +kernel)) (pi_tup (pe_ix ix_tup (pv 1) pe_int (fun _ _ => rfl))) (blkOk_by (N := N_ld) (sc := defScope s_law_led) (by decide +kernel)) (fun _ _ _ _ _ => (pg_name (i := 7) (x := "_law_part") nd rfl (Or.inl rfl))) (fun _ _ _ _ _ => pts_nil) (fun _ _ _ _ _ => (pe_call G hr (by rfl) g Kf b .nil pass0 (pa_cons (pv 0) (pa_cons (pv 7) (pa_cons (pv 2) pa_nil))))))
        (Evl.pss_cut (ps_if (PW.pt (pw_and (pt_cmpR op_eq (pe_ix ix_tup (pv 4) pe_int (fun _ _ => rfl)) pe_str (nomark _)) (pw_and1 (pt_cmpR (op_eqM hr.units) (pe_tup (pa_cons (pe_ix ix_tup (pv 4) pe_int (fun _ _ => rfl)) (pa_cons (pe_ix ix_tup (pv 4) pe_int (fun _ _ => rfl)) pa_nil))) (pe_tup (pa_cons (pe_ix ix_tup (pv 1) pe_int (fun _ _ => rfl)) (pa_cons pe_str pa_nil))) (nomark _)))))
        (pss_one (ps_expr (pe_bm PySem.F.plainAttrs_list PySem.F.slot_list_append PySem.F.type_list_append mt_append (pv 5) (pa_cons (pe_ix ix_tup (pv 4) pe_int (fun _ _ => rfl)) pa_nil))))
        pss_nil)
        (pss_cons (ps_set (i := 6) nd rfl (.inl rfl) (pe_callTy call_tuple_of (by rfl) mtuple boot_tuple (pa_cons (pe_lc (own := [("_law_part", 7)]) (g := gName 7) (tt := tYes) (te := tCall (sp_ld K n) [] E0 (tCons (tVar 0) (tCons (tVar 7) (tCons (tVar 2) tNil)))) rfl nd (pi_tup (pe_slice L2.sl_tup (pv 1) (po_some pe_int) po_none)) (blkOk_by (N := N_ld) (sc := defScope s_law_led) (by decide +kernel)) (fun _ _ _ _ _ => (pg_name (i := 7) (x := "_law_part") nd rfl (Or.inl rfl))) (fun _ _ _ _ _ => pts_nil) (fun _ _ _ _ _ => (pe_call G hr (by rfl) g Kf b .nil pass0 (pa_cons (pv 0) (pa_cons (pv 7) (pa_cons (pv 2) pa_nil)))))) pa_nil)))
        (pss_one (ps_ret (pe_op op_catT (pe_op op_catT (pe_slice L2.sl_tup (pv 1) po_none (po_some pe_int)) (pe_tup (pa_cons (pe_callTy call_tuple_of (by rfl) mtuple boot_tuple (pa_cons (pv 5) pa_nil)) pa_nil))) (pv 6)))))))
      pss_nil)
      (pss_one (ps_ret (pe_op op_catT (pe_tup (pa_cons (pv 3) pa_nil)) (pe_callTy call_tuple_of (by rfl) mtuple boot_tuple (pa_cons (pe_lc (own := [("_law_part", 7)]) (g := gName 7) (tt := tYes) (te := tCall (sp_ld K n) [] E0 (tCons (tVar 0) (tCons (tVar 7) (tCons (tVar 2) tNil)))) rfl nd (pi_tup (pe_slice L2.sl_tup (pv 1) (po_some pe_int) po_none)) (blkOk_by (N := N_ld) (sc := defScope s_law_led) (by decide +kernel)) (fun _ _ _ _ _ => (pg_name (i := 7) (x := "_law_part") nd rfl (Or.inl rfl))) (fun _ _ _ _ _ => pts_nil) (fun _ _ _ _ _ => (pe_call G hr (by rfl) g Kf b .nil pass0 (pa_cons (pv 0) (pa_cons (pv 7) (pa_cons (pv 2) pa_nil)))))) pa_nil))))))))))), ?_⟩
  have hfold : foldE W2 mk (n + 1) x = mk x ((kids x).map (foldE W2 mk n)) := by rw [foldE, kidsW2]
  rw [hfold] at q
  have hself := hp.self
  have hek := he.kids
  have hpk : ∀ y, y ∈ kids x → PartsOk pl r n y := fun y hy => hp.kid hy
  obtain ⟨wd, fs, rest, rfl, _, _⟩ := he.form
  have hfl := he.flat
  rw [flatD, flatDs, Bool.and_eq_true] at hfl
  have hfl2 := hfl.2
  have hd0 := hd
  cases hd with
  | @tup a _ _ hS hA =>
  cases hA with
  | @cons _ us _ _ hw hA =>
  cases hw
  refine ⟨.ref a, rfl, a, _, 0, .str wd, rfl, rfl, hS, at0, .ref d, rfl, d, rfl, .inl ⟨kvs, .inl hdk⟩, .int pl, rfl, le2, fun a1 n1 => ⟨le2, fun a2 n2 => ?_⟩⟩
  have t1 := same_upd (o := .tup [.str "int", .int 1]) n1
  have t2 := same_upd (o := .tup [.str "need", .ref a1]) n2
  have hdef : Dp K (upd (upd H a1 (.tup [.str "int", .int 1])) a2 (.tup [.str "need", .ref a1])) (.ref a2) needD := new_tup (.cons (.str "need") (.cons (new_tup (K := K) (.cons (.str "int") (.cons (.int 1) .nil)) rfl n1) .nil)) rfl n2
  have s1 := t1.trans t2
  revert s1 hdef
  clear t2
  generalize upd (upd H a1 (.tup [.str "int", .int 1])) a2 (.tup [.str "need", .ref a1]) = H1
  intro hdef s1
  have k1 := KeepT.of s1
  have hdk1 := s1 _ _ hdk
  have hst1 := hst.keep k1 hfr
  refine ⟨_, DGet.k (k := .inl pl) hdk1, ?_⟩
  have hrow : Dp K H1 ((valV kvs (.inl pl)).getD (.ref a2)) r := by
    rcases stm_val (pl := pl) hst1 with ⟨hv, hno⟩ | ⟨v0, e, hv, hem, hep, hdv⟩
    · rw [hv]
      rcases hm.2 with ⟨_, hr0⟩ | ⟨_, e, h1, h2, _⟩
      · rw [hr0]
        exact hdef
      · exact absurd h2 (hno e h1)
    · rw [hv]
      rcases hm.2 with ⟨hno, _⟩ | ⟨hnd, e', h1, h2, h3⟩
      · exact absurd hep (hno e hem)
      · have := same_ent hnd h1 hem (h2.trans hep.symm)
        rw [← h3, this]
        exact hdv
  revert hrow
  generalize (valV kvs (.inl pl)).getD (.ref a2) = vr
  intro hrow
  have hS1 := k1.seqt hS
  have hA1 := dp_keepAll k1 _ _ hfl2 hA
  have hd1 := he.kept k1 hd0
  have hrf := hm.1.flat
  refine ⟨.str wd, rfl, rfl, _, rfl, ?_⟩
  by_cases eL : wd = "let"
  · rw [decide_eq_true (congrArg V.str eL)]
    subst eL
    obtain ⟨i, rfl⟩ := he.let_of
    rw [kids_leaf (zs := []) (x := .tuple [.str "let", .int i]) (by cases he with
      | leaf n x h => cases h with
        | let_ i h1 h2 => exact .let_ i h1 h2), List.map_nil] at q
    cases hA1 with
    | cons g1 hA1 =>
    cases g1
    cases hA1
    refine iteT ⟨.ref a, rfl, a, _, 1, .int i, rfl, rfl, hS1, at1, .int pl, rfl, rfl, _, rfl, ?_⟩
    by_cases ei : i = pl
    · rw [decide_eq_true (congrArg V.int ei)]
      obtain ⟨z, E1, er⟩ := hself.2 (by rw [ei]; rfl)
      have hmk := hm.1
      rw [er] at hmk hrow
      have hmk := hmk.of_let
      rw [hmk] at q
      have e2 : mkG W2 (fL pl E1) (.tuple [.str "let", .int i]) [] = E1 := by
        unfold mkG fL
        rw [if_pos (by rw [ei]; simp [letD, PyData.eqv, PyData.eqvAll])]
      rw [e2] at q
      cases hrow with
      | @tup ra _ _ hSr hAr =>
      cases hAr with
      | cons _ hAr =>
      cases hAr with
      | cons _ hAr =>
      cases hAr with
      | @cons vE _ _ _ gE hAr =>
      cases hAr
      exact iteT ⟨.ref ra, rfl, ra, _, 2, vE, rfl, rfl, hSr, at2, q _ _ s1 gE⟩
    · rw [decide_eq_false (fun z => ei (V.int.inj z))]
      have e2 : mk (.tuple [.str "let", .int i]) [] = .tuple [.str "let", .int i] := hm.1.leaf (by decide) (by decide) (by
        rw [Bool.eq_false_iff]
        unfold letD
        simp only [PyData.eqv, PyData.eqvAll, ne_eq, Bool.and_eq_true, beq_iff_eq, not_and, Bool.and_true]
        exact fun _ h => ei h)
      rw [e2] at q
      exact iteF ⟨.ref a, rfl, q _ _ s1 hd1⟩
  rw [decide_eq_false (fun z => eL (V.str.inj z))]
  refine iteF ⟨.str wd, rfl, le2, fun p2 n2' => ?_⟩
  have s2 := same_upd (o := .tup [.str "int", .str "key"]) n2'
  have hp2 : SqT K (upd H1 p2 (.tup [.str "int", .str "key"])) p2 ((["int", "key"] : List Str).map V.str) := .inl (.inl upd_same)
  refine ⟨p2, _, rfl, .inr hp2, rfl, flat_strs (["int", "key"] : List Str), _, rfl, ?_⟩
  clear hp2
  revert s2
  generalize upd H1 p2 (.tup [.str "int", .str "key"]) = H2
  intro s2
  rw [wanted_in]
  have k2 := KeepT.of s2
  have hS2 := k2.seqt hS1
  have hA2 := dp_keepAll k2 _ _ hfl2 hA1
  have hd2 := he.kept k2 hd1
  have hrow2 := dp_keep k2 _ _ hrf hrow
  have hdk2 := s2 _ _ hdk1
  have hst2 := hst1.keep k2 hfr
  have s02 := s1.trans s2
  clear hS1 hA1 hd1 hrow hdk1 hst1 hS hA hdef
  by_cases eI : wd ∈ (["int", "key"] : List Str)
  · rw [decide_eq_true eI]
    have hk0 : kids (.tuple (.str wd :: rest)) = [] := by
      simp only [List.mem_cons, List.not_mem_nil, or_false] at eI
      rcases eI with rfl | rfl
      · exact kids_of (fs := ["value"]) (by decide) |>.trans (by
          cases he with
          | leaf n x h => cases h with
            | int i _ _ => rw [p_no (by decide) (by decide), p_nil]
          | op n o x y h => exact absurd h (by decide)
          | agg n o t xs ys h => exact absurd (aggs_w h).1 (by decide))
      · cases he with
          | leaf n x h => cases h with
            | key => exact kids_leaf (zs := []) .key
          | op n o x y h => exact absurd h (by decide)
          | agg n o t xs ys h => exact absurd (aggs_w h).1 (by decide)
    rw [hk0, List.map_nil, hm.1.leaf (fun z => by
      simp only [List.mem_cons, List.not_mem_nil, or_false] at eI
      rcases eI with rfl | rfl <;> exact absurd z (by decide)) (fun z => by
      subst z
      exact absurd eI (by decide)) (ne_let eL)] at q
    exact iteT ⟨.ref a, rfl, q _ _ s02 hd2⟩
  rw [decide_eq_false eI]
  refine iteF ⟨.str wd, rfl, rfl, _, rfl, ?_⟩
  by_cases eC : wd = "cell"
  · rw [decide_eq_true (congrArg V.str eC)]
    subst eC
    obtain ⟨m, t, z, x0, em, ht, hz, rfl, hx0⟩ := he.cell_of
    obtain rfl : n = m := by omega
    rw [kids_cell] at q hpk
    have hA2' := hA2
    cases hA2' with
    | cons g1 hA3 =>
    cases g1
    cases hA3 with
    | @cons v2 _ _ _ g2 hA3 =>
    cases hA3 with
    | cons g3 hA3 =>
    cases g3
    cases hA3
    refine iteT ⟨vr, rfl, .ref a, rfl, .ref d, rfl, .ref a, rfl, a, _, 2, v2, rfl, rfl, hS2, at2, .int pl, rfl, d, v2, pl, kvs, rows, r, x0, zs, mk, rfl, hdk2, hst2, hfr, g2, hx0, hzs, hm, hpk x0 List.mem_cons_self, fun H3 vk s3 hvk => ?_⟩
    have k3 := KeepT.of s3
    exact ⟨vr, .ref a, vk, pl, r, x0, _, t, z, mk, rfl, dp_keep k3 _ _ hrf hrow2, hm.1, he.kept k3 hd2, hzs t ht, hzs z hz, hvk, hm.1.fold_flat hx0, fun H4 v4 s4 hv4 => q _ _ (s02.trans (s3.trans s4)) hv4⟩
  rw [decide_eq_false (fun z => eC (V.str.inj z))]
  refine iteF ⟨.str wd, rfl, small_le (show 4 ≤ 1000 by decide), fun p3 n3 => ?_⟩
  have s3 := same_upd (o := .tup [.str "count", .str "sum", .str "most", .str "first"]) n3
  have hp3 : SqT K (upd H2 p3 (.tup [.str "count", .str "sum", .str "most", .str "first"])) p3 (aggW.map V.str) := .inl (.inl upd_same)
  refine ⟨p3, aggW.map V.str, rfl, .inr hp3, rfl, flat_strs aggW, _, rfl, ?_⟩
  clear hp3
  revert s3
  generalize upd H2 p3 (.tup [.str "count", .str "sum", .str "most", .str "first"]) = H3
  intro s3
  rw [wanted_in]
  have k3 := KeepT.of s3
  have hS3 := k3.seqt hS2
  have hA3 := dp_keepAll k3 _ _ hfl2 hA2
  have hd3 := he.kept k3 hd2
  have hrow3 := dp_keep k3 _ _ hrf hrow2
  have hdk3 := s3 _ _ hdk2
  have hst3 := hst2.keep k3 hfr
  have s03 := s02.trans s3
  clear hS2 hA2 hd2 hrow2 hdk2 hst2
  by_cases eG : wd ∈ aggW
  · rw [decide_eq_true eG]
    obtain ⟨m, t, xs, y, ys, em, rfl, ht, hag, hx40, hxs, hy, hys⟩ := he.agg_of eG
    obtain rfl : n = m := by omega
    have hag' : (wd, (y :: ys).length) ∈ aggs := by rw [List.length_cons]; exact hag
    rw [kids_agg hag', List.map_append] at q
    rw [kids_agg hag'] at hpk
    have hfl3 := hfl2
    simp only [flatDs, flatD, Bool.and_eq_true] at hfl3
    have fxs : flatDs xs = true := hfl3.2.1
    have fys : flatDs (y :: ys) = true := by
      rw [flatDs, hfl3.2.2.1, hfl3.2.2.2]
      rfl
    have hA3' := hA3
    cases hA3' with
    | cons g1 hA4 =>
    cases g1
    cases hA4 with
    | cons g2 hA4 =>
    cases g2 with
    | @tup xb ux _ hSx hAx =>
    rename_i uy
    have lx := dpAll_len hAx
    have ly := dpAll_len hA4
    rw [List.length_cons] at ly
    have ys4 : ys.length + 1 ≤ 4 := by
      have : ∀ p, p ∈ aggs → p.2 ≤ 4 := by decide
      exact this _ hag
    have exs : ∀ z, z ∈ xs → Ex zs n z := hxs
    have eys : ∀ z, z ∈ y :: ys → Ex zs n z := fun z hz => by
      rcases List.mem_cons.mp hz with rfl | hz
      · exact hy
      · exact hys z hz
    obtain ⟨mk1, mk2⟩ := hm.1.agg (t := t) (xs := xs) (qa := xs.map (foldE W2 mk n)) (qb := (y :: ys).map (foldE W2 mk n)) eG hag hy (List.length_map ..) (by rw [List.length_map, List.length_cons])
    refine iteT ⟨.ref a, rfl, a, _, 2, .ref xb, rfl, rfl, hS3, at2, xb, rfl, ⟨_, hSx⟩, fun D nD => ?_⟩
    refine lc_led (o5 := none) hdk3 hst3 hfr hSx hAx fxs (by omega) exs hzs hm (fun z hz => hpk z (List.mem_append_left _ hz)) nD fun H4 acc s4 hD hP => ?_
    have lacc : acc.length = xs.length := by rw [dpAll_len hP, List.length_map]
    have fX : flatDs (xs.map (foldE W2 mk n)) = true := flatDs_of fun z hz => by
      obtain ⟨z', hz', rfl⟩ := List.mem_map.mp hz
      exact hm.1.fold_flat (exs z' hz')
    have fY : flatDs ((y :: ys).map (foldE W2 mk n)) = true := flatDs_of fun z hz => by
      obtain ⟨z', hz', rfl⟩ := List.mem_map.mp hz
      exact hm.1.fold_flat (eys z' hz')
    have nDH : H D = none := s03.free nD
    have k4 := KeepT.of s4
    have hrow4 := dp_keep k4 _ _ hrf hrow3
    have hS4 := k4.seqt hS3
    refine ⟨fun σ' H' => ∃ (acc' : List V) (ext : List PyData), σ' = [some (.ref d), some (.ref a), some (.int pl), some (.str wd), some vr, some (.ref D), none, none] ∧ H' D = some (.lst acc') ∧ DpAll K H' acc' (xs.map (foldE W2 mk n) ++ ext) ∧ flatDs ext = true ∧ acc'.length ≤ 42 ∧ (∀ b o, b ≠ D → H4 b = some o → H' b = some o) ∧
      mk (.tuple (.str wd :: .str t :: .tuple xs :: y :: ys)) (xs.map (foldE W2 mk n) ++ (y :: ys).map (foldE W2 mk n)) = .tuple (.str wd :: .str t :: .tuple (xs.map (foldE W2 mk n) ++ ext) :: (y :: ys).map (foldE W2 mk n)), ?_, ?_⟩
    · have plain : (∀ w t' c a v, r = wrD w t' c a v → ¬ (w = "put" ∨ w = "each")) ∨ (∃ w t' c a v, r = wrD w t' c a v ∧ (w = "put" ∨ w = "each") ∧ ¬ (w = "put" ∧ (t', c) = (t, ("in" : Str)))) → ∀ H', (∀ b o, b ≠ D → H4 b = some o → H' b = some o) → H' D = some (.lst acc) → DpAll K H' acc (xs.map (foldE W2 mk n)) → ∃ (acc' : List V) (ext : List PyData), ([some (.ref d), some (.ref a), some (.int pl), some (.str wd), some vr, some (.ref D), none, none] : L2.St) = [some (.ref d), some (.ref a), some (.int pl), some (.str wd), some vr, some (.ref D), none, none] ∧ H' D = some (.lst acc') ∧ DpAll K H' acc' (xs.map (foldE W2 mk n) ++ ext) ∧ flatDs ext = true ∧ acc'.length ≤ 42 ∧ (∀ b o, b ≠ D → H4 b = some o → H' b = some o) ∧
          mk (.tuple (.str wd :: .str t :: .tuple xs :: y :: ys)) (xs.map (foldE W2 mk n) ++ (y :: ys).map (foldE W2 mk n)) = .tuple (.str wd :: .str t :: .tuple (xs.map (foldE W2 mk n) ++ ext) :: (y :: ys).map (foldE W2 mk n)) := by
        intro hc H' kk hD' hP'
        refine ⟨acc, [], rfl, hD', by rw [List.append_nil]; exact hP', rfl, by omega, kk, ?_⟩
        rcases hc with hc | ⟨w', t', c, a', v', er, hw', hn⟩
        · exact mk2 hc
        · rw [mk1 w' t' c a' v' er hw', if_neg hn]
      have hrk := hm.1
      clear hm mk2 hpk hself hp q exs eys fX fY hfold hrow3
      have hst_ : ∀ b o, b ≠ D → H4 b = some o → H4 b = some o := fun _ _ _ e => e
      cases hrk with
      | let_ z E hE =>
        cases hrow4 with
        | @tup ra _ _ hSr hAr =>
        cases hAr with
        | cons k0 hAr =>
        cases k0
        refine ⟨.ref ra, rfl, ra, _, 0, .str "let", rfl, rfl, hSr, at0, rfl, _, rfl, iteF (plain (.inl fun w t' c a v e => ?_) H4 hst_ hD hP)⟩
        unfold wrD at e
        cases e
      | oth w' r' h1 h2 h3 h4 =>
        cases hrow4 with
        | @tup ra _ _ hSr hAr =>
        cases hAr with
        | cons k0 hAr =>
        cases k0
        refine ⟨.ref ra, rfl, ra, _, 0, .str w', rfl, rfl, hSr, at0, rfl, _, rfl, ?_⟩
        rw [decide_eq_false (fun z => h2 (V.str.inj z))]
        refine iteF (plain (.inl fun w t' c a v e hw => ?_) H4 hst_ hD hP)
        unfold wrD at e
        cases e
        exact hw.elim h2 h3
      | wr w' t' c' a' u' hw ha hu h1 h2 =>
        unfold wrD at hrow4
        cases hrow4 with
        | @tup ra _ _ hSr hAr =>
        cases hAr with
        | cons k0 hAr =>
        cases k0
        cases hAr with
        | cons k1 hAr =>
        cases k1
        cases hAr with
        | @cons va _ _ _ k2 hAr =>
        cases hAr with
        | cons k3 hAr =>
        cases k3
        refine ⟨.ref ra, rfl, ra, _, 0, .str w', rfl, rfl, hSr, at0, rfl, _, rfl, ?_⟩
        by_cases ep : w' = "put"
        · rw [decide_eq_true (congrArg V.str ep)]
          refine iteT ⟨.ref ra, rfl, ra, _, 1, .str t', rfl, rfl, hSr, at1, .ref ra, rfl, ra, _, 3, .str c', rfl, rfl, hSr, at3, le2, fun g1 m1 => ?_⟩
          have v1 := same_upd (o := .tup [.str t', .str c']) m1
          have hg1 : upd H4 g1 (.tup [.str t', .str c']) g1 = some (.tup [.str t', .str c']) := upd_same
          refine ⟨.ref a, rfl, a, _, 1, .str t, rfl, rfl, (KeepT.of v1).seqt hS4, at1, le2, fun g2 m2 => ?_⟩
          have v2 := same_upd (o := .tup [.str t, .str "in"]) m2
          have hg2 : Dp K (upd (upd H4 g1 (.tup [.str t', .str c'])) g2 (.tup [.str t, .str "in"])) (.ref g2) (.tuple [.str t, .str "in"]) := new_tup (.cons (.str t) (.cons (.str "in") .nil)) rfl m2
          have hg12 : Dp K (upd (upd H4 g1 (.tup [.str t', .str c'])) g2 (.tup [.str t, .str "in"])) (.ref g1) (.tuple [.str t', .str c']) := .tup (.inl (.inl (v2 _ _ hg1))) (.cons (.str t') (.cons (.str c') .nil))
          have v12 := v1.trans v2
          revert hg2 hg12 v12
          clear v1 v2 hg1
          generalize upd (upd H4 g1 (.tup [.str t', .str c'])) g2 (.tup [.str t, .str "in"]) = H5
          intro hg2 hg12 v12
          refine ⟨_, _, hg12, hg2, pr_lay h1 h2, pr_lay (hzs t ht) (ok_words "in" (by decide)), pr_depth, _, rfl, ?_⟩
          rw [pr_eqv]
          have hD5 := v12 _ _ hD
          have hP5 := dp_keepAll (KeepT.of v12) _ _ (flatDs_of fun z hz => by
            obtain ⟨z', hz', rfl⟩ := List.mem_map.mp hz
            exact RowK.fold_flat (RowK.wr (pl := pl) w' t' c' a' u' hw ha hu h1 h2) (hxs z' hz')) hP
          by_cases hc : (t', c') = (t, ("in" : Str))
          · rw [decide_eq_true hc]
            have hSr5 := (KeepT.of v12).seqt hSr
            have k25 := dp_keep (KeepT.of v12) _ _ ha k2
            refine iteT ⟨.ref D, rfl, .inl ⟨rfl, acc, .inl (.inl hD5)⟩, .ref ra, rfl, ra, _, 2, va, rfl, rfl, hSr5, at2, D, acc, va, rfl, rfl, hD5, small1000 (by omega), ?_⟩
            have kD : KeepT H5 (upd H5 D (.lst (acc ++ [va]))) := KeepT.lst hD5
            refine ⟨acc ++ [va], [a'], rfl, upd_same, dpAll_app (dp_keepAll kD _ _ (flatDs_of fun z hz => by
              obtain ⟨z', hz', rfl⟩ := List.mem_map.mp hz
              exact RowK.fold_flat (RowK.wr (pl := pl) w' t' c' a' u' hw ha hu h1 h2) (hxs z' hz')) hP5) (.cons (dp_keep kD _ _ ha k25) .nil), by simp only [flatDs, ha, Bool.and_self], by rw [List.length_append, List.length_cons, List.length_nil]; omega, fun b o nb e => by rw [upd_ne nb]; exact v12 _ _ e, ?_⟩
            rw [mk1 w' t' c' a' u' rfl hw, if_pos ⟨ep, hc⟩]
          · rw [decide_eq_false hc]
            exact iteF (plain (.inr ⟨w', t', c', a', u', rfl, hw, fun z => hc z.2⟩) H5 (fun b o _ e => v12 _ _ e) hD5 hP5)
        · rw [decide_eq_false (fun z => ep (V.str.inj z))]
          exact iteF (plain (.inr ⟨w', t', c', a', u', rfl, hw, fun z => ep z.1⟩) H4 hst_ hD hP)
    · rintro σ' H5 ⟨acc', ext, rfl, hD5, hP5, fe, la5, kk5, emk⟩
      have s45 : Same H3 H5 := fun b o e => kk5 b o (ne_of_none e nD) (s4 _ _ e)
      have k35 := KeepT.of s45
      have hS5 := k35.seqt hS3
      have hlen : (V.str wd :: V.str t :: V.ref xb :: uy).length = uy.length + 3 := by simp only [List.length_cons]
      refine ⟨.ref a, rfl, 3, rfl, a, _, rfl, hS5, ?_, fun c nc => ?_⟩
      · rintro ⟨e, _⟩
        have : HT.sIx (V.str wd :: V.str t :: V.ref xb :: uy).length 0 (some 3) = min 3 (V.str wd :: V.str t :: V.ref xb :: uy).length := HT.sIx_nat _ _ 3
        rw [this] at e
        simp only [List.length_cons] at e
        omega
      have cut : cutV (V.str wd :: V.str t :: V.ref xb :: uy) (some 3) none = uy := by
        unfold cutV
        rw [HT.sIx_none, show HT.sIx (V.str wd :: V.str t :: V.ref xb :: uy).length 0 (some 3) = 3 from (HT.sIx_nat _ _ 3).trans (by rw [hlen]; omega), hlen]
        show uy.take _ = _
        exact List.take_of_length_le (by omega)
      rw [cut]
      have sc := same_upd (o := .tup uy) nc
      have hcS : SqT K (upd H5 c (.tup uy)) c uy := .inl (.inl upd_same)
      have hD6 := sc _ _ hD5
      have hP6 := dp_keepAll (KeepT.of sc) _ _ (flat_append fX fe) hP5
      have s36 := s45.trans sc
      revert hcS hD6 hP6 s36
      clear sc
      generalize upd H5 c (.tup uy) = H6
      intro hcS hD6 hP6 s36
      have k36 := KeepT.of s36
      refine ⟨c, rfl, ⟨_, hcS⟩, fun E nE => ?_⟩
      refine lc_led (o5 := some (.ref D)) (s36 _ _ hdk3) (hst3.keep k36 hfr) hfr hcS (dp_keepAll k36 _ _ fys hA4) fys (by rw [List.length_cons]; omega) eys hzs hm (fun z hz => hpk z (List.mem_append_right _ hz)) nE fun H7 accy s7 hE hPy => ?_
      have lyy : accy.length = ys.length + 1 := by rw [dpAll_len hPy, List.length_map, List.length_cons]
      refine ⟨E, accy, rfl, .inl ⟨.inl (.inl hE), fun tr ntr => ?_⟩⟩
      have s8 := same_upd (o := .tup accy) ntr
      have htr : upd H7 tr (.tup accy) tr = some (.tup accy) := upd_same
      have hPy8 := dp_keepAll (KeepT.of s8) _ _ fY hPy
      have hD8 := s8 _ _ (s7 _ _ hD6)
      have hP8 := dp_keepAll (KeepT.of (s7.trans s8)) _ _ (flat_append fX fe) hP6
      have s38 := s36.trans (s7.trans s8)
      revert htr hPy8 hD8 hP8 s38
      clear s8
      generalize upd H7 tr (.tup accy) = H8
      intro htr hPy8 hD8 hP8 s38
      have hS8 := (KeepT.of s38).seqt hS3
      refine ⟨.ref a, rfl, 2, rfl, a, _, rfl, hS8, ?_, fun p4 n4 => ?_⟩
      · rintro ⟨_, e⟩
        have : HT.sIx (V.str wd :: V.str t :: V.ref xb :: uy).length (V.str wd :: V.str t :: V.ref xb :: uy).length (some 2) = min 2 (V.str wd :: V.str t :: V.ref xb :: uy).length := HT.sIx_nat _ _ 2
        rw [this] at e
        simp only [List.length_cons] at e
        omega
      have cut1 : cutV (V.str wd :: V.str t :: V.ref xb :: uy) none (some 2) = [V.str wd, V.str t] := by
        unfold cutV
        rw [HT.sIx_none, show HT.sIx (V.str wd :: V.str t :: V.ref xb :: uy).length (V.str wd :: V.str t :: V.ref xb :: uy).length (some 2) = min 2 (V.str wd :: V.str t :: V.ref xb :: uy).length from HT.sIx_nat _ _ 2]
        simp only [List.length_cons, List.drop_zero, Nat.sub_zero]
        rw [show min 2 (uy.length + 1 + 1 + 1) = 2 by omega]
        rfl
      rw [cut1]
      have u1 := same_upd (o := .tup [V.str wd, V.str t]) n4
      have hp4 : upd H8 p4 (.tup [V.str wd, V.str t]) p4 = some (.tup [V.str wd, V.str t]) := upd_same
      refine ⟨.ref D, rfl, D, acc', rfl, .inl ⟨.inl (.inl (u1 _ _ hD8)), fun p5 n5 => ⟨h1000 (show 1 ≤ 1000 by decide), fun p6 n6 => ?_⟩⟩⟩
      have u2 := same_upd (o := .tup acc') n5
      have u3 := same_upd (o := .tup [V.ref p5]) n6
      have hp5 : Dp K (upd (upd H8 p4 (.tup [V.str wd, V.str t])) p5 (.tup acc')) (.ref p5) (.tuple (xs.map (foldE W2 mk n) ++ ext)) := new_tup (dp_keepAll (KeepT.of u1) _ _ (flat_append fX fe) hP8) (flat_append fX fe) n5
      refine ⟨p4, p6, [V.str wd, V.str t], [V.ref p5], rfl, rfl, .inl (.inl (u3 _ _ (u2 _ _ hp4))), .inl (.inl upd_same), by simp, h1000 (by simp only [List.length_cons, List.length_nil]; omega), fun e => by simp at e, fun _ p7 n7 => ?_⟩
      have u4 := same_upd (o := .tup ([V.str wd, V.str t] ++ [V.ref p5])) n7
      refine ⟨.ref tr, rfl, p7, tr, [V.str wd, V.str t] ++ [V.ref p5], accy, rfl, rfl, .inl (.inl upd_same), .inl (.inl (u4 _ _ (u3 _ _ (u2 _ _ (u1 _ _ htr))))), by simp, h1000 (by simp only [List.length_append, List.length_cons, List.length_nil]; omega), fun e => ?_, fun _ p8 n8 => ?_⟩
      · rw [e] at lyy
        simp at lyy
      have u5 := same_upd (o := .tup ([V.str wd, V.str t] ++ [V.ref p5] ++ accy)) n8
      have u34 := u3.trans u4
      rw [emk] at q
      refine q _ _ (s03.trans (s38.trans (u1.trans (u2.trans (u34.trans u5))))) ?_
      show Dp K _ _ _
      refine new_tup (vs := V.str wd :: V.str t :: V.ref p5 :: accy) (.cons (.str wd) (.cons (.str t) (.cons (dp_keep (KeepT.of u34) _ _ (by rw [flatD]; exact flat_append fX fe) hp5) (dp_keepAll (KeepT.of (u1.trans (u2.trans u34))) _ _ fY hPy8)))) ?_ n8
      simp only [flatDs, flatD, flat_append fX fe, Bool.true_and]
      exact fY
  · rw [decide_eq_false eG]
    rcases ex_rest_of he eG eC with ⟨hleaf, _⟩ | ⟨hnl, hkr, hne, h3⟩
    · exfalso
      simp only [List.mem_cons, List.not_mem_nil, or_false] at hleaf
      rcases hleaf with rfl | rfl | rfl | rfl
      · exact eI (by decide)
      · exact eI (by decide)
      · exact eL rfl
      · exact hself.1 rfl
    rw [hkr, hm.1.refill eG eC eL, ch_rest he eG eC hnl (List.length_map ..)] at q
    rw [hkr] at hek hpk
    have lu := dpAll_len hA3
    have fF : flatDs (rest.map (foldE W2 mk n)) = true := flatDs_of fun z hz => by
      obtain ⟨z', hz', rfl⟩ := List.mem_map.mp hz
      exact hm.1.fold_flat (hek.1 z' hz')
    refine iteF ⟨.str wd, rfl, h1000 (show 1 ≤ 1000 by decide), fun p4 n4 => ?_⟩
    have s4 := same_upd (o := .tup [.str wd]) n4
    have hp4 : upd H3 p4 (.tup [.str wd]) p4 = some (.tup [.str wd]) := upd_same
    revert s4 hp4
    generalize upd H3 p4 (.tup [.str wd]) = H4
    intro s4 hp4
    have k4 := KeepT.of s4
    have hS4 := k4.seqt hS3
    have hlen : (V.str wd :: us).length = us.length + 1 := List.length_cons ..
    have hpos : 0 < us.length := by
      rw [lu]
      exact List.length_pos_iff.mpr hne
    have i1 : HT.sIx (V.str wd :: us).length 0 (some 1) = 1 := (HT.sIx_nat _ _ 1).trans (by rw [hlen]; omega)
    have cut : cutV (V.str wd :: us) (some 1) none = us := by
      unfold cutV
      rw [HT.sIx_none, i1, hlen]
      show us.take _ = _
      exact List.take_of_length_le (by omega)
    refine ⟨.ref a, rfl, 1, rfl, a, _, rfl, hS4, fun e => ?_, fun c nc => ?_⟩
    · rw [i1] at e
      exact absurd e.1 (by decide)
    rw [cut]
    have s5 := same_upd (o := .tup us) nc
    have hc : SqT K (upd H4 c (.tup us)) c us := .inl (.inl upd_same)
    revert s5 hc
    generalize upd H4 c (.tup us) = H5
    intro s5 hc
    have s35 := s4.trans s5
    have k35 := KeepT.of s35
    refine ⟨c, rfl, ⟨us, hc⟩, fun D nD => ?_⟩
    refine lc_led (o5 := none) (s35 _ _ hdk3) (hst3.keep k35 hfr) hfr hc (dp_keepAll k35 _ _ hfl2 hA3) hfl2 hek.2 hek.1 hzs hm hpk nD fun H6 acc s6 hD hP => ?_
    refine ⟨D, acc, rfl, .inl ⟨.inl (.inl hD), fun t nt => ?_⟩⟩
    have s7 := same_upd (o := .tup acc) nt
    have lacc : acc.length = rest.length := by rw [dpAll_len hP, List.length_map]
    refine ⟨p4, t, [.str wd], acc, rfl, rfl, .inl (.inl (s7 _ _ (s6 _ _ (s5 _ _ hp4)))), .inl (.inl upd_same), by simp, h1000 (by simp only [List.length_cons, List.length_nil]; omega), fun e => ?_, fun _ p8 n8 => ?_⟩
    · rw [e] at lacc
      exact absurd (List.eq_nil_of_length_eq_zero lacc.symm) hne
    · have s8 := same_upd (o := .tup ([.str wd] ++ acc)) n8
      refine q _ _ (s03.trans (s35.trans (s6.trans (s7.trans s8)))) ?_
      exact new_tup (vs := V.str wd :: acc) (.cons (.str wd) (dp_keepAll (KeepT.of s7) _ _ fF hP)) (by rw [flatDs, fF]; rfl) n8
theorem ok_ld {f fc : Addr} {fd fdc : FuncData} {k : Nat} (F : Fun K "_law_led" "_law_led" s_law_led f fd) (Gc : FnOk P w K mg base CX0 k fc fdc ["_law_row", "_law_thing", "_law_key"] (sp_lc K)) (gc : mg "_law_led_cell" = some (.ref fc)) (Kc : PySem.W.keepIn K (.ref fc) = true) (bc : Binds K fdc ["_law_row", "_law_thing", "_law_key"] [])
    (g : mg "_law_led" = some (.ref f)) (Kf : PySem.W.keepIn K (.ref f) = true) (b : Binds K fd ps_ld []) (mtuple : mg "tuple" = none) : ∀ n, FnOk P w K mg base CX0 (k + n) f fd ps_ld (sp_ld K n)
  | 0 => ok_none fun vs H Q E ⟨d, v, pl, kvs, rows, r, x, zs, mk, _, _, _, _, _, h, _⟩ => by cases h
  | n + 1 => ok_ld_step (k := k + n) F (Gc.mono (by omega)) gc Kc bc (ok_ld F Gc gc Kc bc g Kf b mtuple n) g Kf b mtuple
end
end L41

namespace L41
open PySem PySem.Spec PyProof.Rows L2 GR WX TX UA RZ
/-! ### expressions on their way: e extras at most, no variables, lets of L -/
inductive Eb (e : Nat) (L : List Int) (zs : List Str) : Nat → PyData → Prop
  | int (n : Nat) (i : Int) : -(10 ^ 18) ≤ i → i ≤ 10 ^ 18 → Eb e L zs (n + 1) (.tuple [.str "int", .int i])
  | let_ (n : Nat) (i : Int) : i ∈ L → 0 ≤ i → i ≤ 10000 → Eb e L zs (n + 1) (letD i)
  | key (n : Nat) : Eb e L zs (n + 1) (.tuple [.str "key"])
  | cell (n : Nat) (t v : Str) (x : PyData) : t ∈ zs → v ∈ zs → Eb e L zs n x → Eb e L zs (n + 1) (.tuple [.str "cell", .str t, x, .str v])
  | op (n : Nat) (o : Str) (x y : PyData) : o ∈ opws → Eb e L zs n x → Eb e L zs n y → Eb e L zs (n + 1) (.tuple [.str o, x, y])
  | iff (n : Nat) (x y z : PyData) : Eb e L zs n x → Eb e L zs n y → Eb e L zs n z → Eb e L zs (n + 1) (.tuple [.str "if", x, y, z])
  | agg (n : Nat) (o t : Str) (xs ys : List PyData) : (o, ys.length) ∈ aggs → t ∈ zs → xs.length ≤ e → (∀ x, x ∈ xs → Eb e L zs n x) → (∀ y, y ∈ ys → Eb e L zs n y) → Eb e L zs (n + 1) (.tuple (.str o :: .str t :: .tuple xs :: ys))
theorem Eb.mono {e e' : Nat} {L : List Int} {zs : List Str} (he : e ≤ e') {n : Nat} {x : PyData} (h : Eb e L zs n x) : ∀ {m : Nat}, n ≤ m → Eb e' L zs m x := by
  induction h with
  | int n i h1 h2 => intro m hm; obtain ⟨k, rfl⟩ : ∃ k, m = k + 1 := ⟨m - 1, by omega⟩; exact .int k i h1 h2
  | let_ n i h0 h1 h2 => intro m hm; obtain ⟨k, rfl⟩ : ∃ k, m = k + 1 := ⟨m - 1, by omega⟩; exact .let_ k i h0 h1 h2
  | key n => intro m hm; obtain ⟨k, rfl⟩ : ∃ k, m = k + 1 := ⟨m - 1, by omega⟩; exact .key k
  | cell n t v x h1 h2 _ ih => intro m hm; obtain ⟨k, rfl⟩ : ∃ k, m = k + 1 := ⟨m - 1, by omega⟩; exact .cell k t v x h1 h2 (ih (by omega))
  | op n o x y h1 _ _ ih1 ih2 => intro m hm; obtain ⟨k, rfl⟩ : ∃ k, m = k + 1 := ⟨m - 1, by omega⟩; exact .op k o x y h1 (ih1 (by omega)) (ih2 (by omega))
  | iff n x y z _ _ _ ih1 ih2 ih3 => intro m hm; obtain ⟨k, rfl⟩ : ∃ k, m = k + 1 := ⟨m - 1, by omega⟩; exact .iff k x y z (ih1 (by omega)) (ih2 (by omega)) (ih3 (by omega))
  | agg n o t xs ys h1 h2 h3 _ _ ih1 ih2 => intro m hm; obtain ⟨k, rfl⟩ : ∃ k, m = k + 1 := ⟨m - 1, by omega⟩; exact .agg k o t xs ys h1 h2 (by omega) (fun x hx => ih1 x hx (by omega)) (fun y hy => ih2 y hy (by omega))
theorem Eb.ex {e : Nat} {L : List Int} {zs : List Str} (he : e ≤ 40) {n : Nat} {x : PyData} (h : Eb e L zs n x) : Ex zs n x := by
  induction h with
  | int n i h1 h2 => exact .leaf n _ (.int i h1 h2)
  | let_ n i h0 h1 h2 => exact .leaf n _ (.let_ i h1 h2)
  | key n => exact .leaf n _ .key
  | cell n t v x h1 h2 _ ih => exact .cell n t v x h1 h2 ih
  | op n o x y h1 _ _ ih1 ih2 => exact .op n o x y h1 ih1 ih2
  | iff n x y z _ _ _ ih1 ih2 ih3 => exact .iff n x y z ih1 ih2 ih3
  | agg n o t xs ys h1 h2 h3 _ _ ih1 ih2 => exact .agg n o t xs ys h1 h2 (by omega) ih1 ih2
theorem Eb.kids {e : Nat} {L : List Int} {zs : List Str} {n : Nat} {x : PyData} (h : Eb e L zs (n + 1) x) : ∀ y, y ∈ L41.kids x → Eb e L zs n y := by
  cases h with
  | int n i h1 h2 => rw [kids_leaf (zs := zs) (.int i h1 h2)]; exact fun y hy => (nomatch hy)
  | let_ n i h0 h1 h2 => unfold letD; rw [kids_leaf (zs := zs) (.let_ i h1 h2)]; exact fun y hy => (nomatch hy)
  | key n => rw [kids_leaf (zs := zs) .key]; exact fun y hy => (nomatch hy)
  | cell n t v x h1 h2 h3 => rw [kids_cell]; exact fun y hy => by rw [List.mem_singleton.mp hy]; exact h3
  | op n o x y h1 h2 h3 =>
    rw [kids_op h1]
    intro z hz
    simp only [List.mem_cons, List.not_mem_nil, or_false] at hz
    rcases hz with rfl | rfl <;> assumption
  | iff n x y z h1 h2 h3 =>
    rw [kids_if]
    intro z hz
    simp only [List.mem_cons, List.not_mem_nil, or_false] at hz
    rcases hz with rfl | rfl | rfl <;> assumption
  | agg n o t xs ys h1 h2 h3 h4 h5 =>
    rw [kids_agg h1]
    intro z hz
    exact (List.mem_append.mp hz).elim (h4 z) (h5 z)
theorem Eb.parts {e : Nat} {L : List Int} {zs : List Str} : ∀ {n : Nat} {x : PyData}, Eb e L zs n x → ∀ y, y ∈ flatP n x → ∃ m, Eb e L zs (m + 1) y
  | 0, _, h, _, _ => by cases h
  | n + 1, x, h, y, hy => by
    rw [flatP] at hy
    rcases List.mem_cons.mp hy with rfl | hy
    · exact ⟨n, h⟩
    · obtain ⟨k, hk, hy⟩ := List.mem_flatMap.mp hy
      exact Eb.parts (h.kids k hk) y hy
/-- filled with its own -/
theorem ch_self {zs : List Str} {n : Nat} {x : PyData} (h : Ex zs n x) : chX x (L41.kids x) = x := by
  cases h with
  | leaf n x h => rw [kids_leaf h]; rfl
  | cell n t v x h1 h2 h3 => rw [kids_cell]; unfold chX; rw [if_neg (by simp), fill_cell]
  | op n o x y h1 h2 h3 => rw [kids_op h1]; unfold chX; rw [if_neg (by simp), fill_op h1]
  | iff n x y z h1 h2 h3 => rw [kids_if]; unfold chX; rw [if_neg (by simp), fill_if]
  | agg n o t xs ys h1 h2 h3 h4 h5 =>
    rw [kids_agg h1]
    have h2' := (aggs_w h1).2
    unfold chX
    rw [if_neg (by
      cases ys with
      | nil => simp at h2'
      | cons _ _ => simp), fill_agg h1 rfl rfl]
theorem fold_id {mk : PyData → List PyData → PyData} {zs : List Str} : ∀ {n : Nat} {x : PyData}, Ex zs n x → (∀ y, y ∈ flatP n x → mk y (L41.kids y) = y) → foldE W2 mk n x = x
  | 0, _, h, _ => by cases h
  | n + 1, x, h, hm => by
    rw [foldE, kidsW2]
    have : (L41.kids x).map (foldE W2 mk n) = L41.kids x := by
      conv => rhs; rw [← List.map_id (L41.kids x)]
      refine List.map_congr_left fun y hy => ?_
      exact fold_id (h.kids.1 y hy) fun u hu => hm u (by rw [flatP]; exact List.mem_cons_of_mem _ (List.mem_flatMap.mpr ⟨y, hy, hu⟩))
    rw [this]
    exact hm x (by rw [flatP]; exact List.mem_cons_self)
/-- what a row brings -/
inductive RowB (L : List Int) (zs : List Str) (m : Nat) (pl : Int) : PyData → (PyData → List PyData → PyData) → Prop
  | let_ (z : Str) (E : PyData) : Eb 0 L zs m E → RowB L zs m pl (.tuple [.str "let", .str z, E]) (mkG W2 (fL pl E))
  | wr (w t c : Str) (a v : PyData) : (w = "put" ∨ w = "each") → Eb 0 L zs m a → Eb 0 L zs m v → t ∈ zs → c ∈ zs → RowB L zs m pl (wrD w t c a v) (mkW (t, c) (wrL w t c a v) (adX w c a))
  | oth (w : Str) (r : List PyData) : w ≠ "let" → w ≠ "put" → w ≠ "each" → flatDs r = true → RowB L zs m pl (.tuple (.str w :: r)) chX
theorem RowB.k {L : List Int} {zs : List Str} {m : Nat} {pl : Int} {r : PyData} {mk : PyData → List PyData → PyData} (hz : NOks zs) (h : RowB L zs m pl r mk) : RowK pl r mk := by
  cases h with
  | let_ z E h => exact .let_ z E (h.ex (by decide)).flat
  | wr w t c a v hw h1 h2 h3 h4 => exact .wr w t c a v hw (h1.ex (by decide)).flat (h2.ex (by decide)).flat (hz t h3) (hz c h4)
  | oth w r h1 h2 h3 h4 => exact .oth w r h1 h2 h3 h4
theorem wrL_eb {L : List Int} {zs : List Str} {m : Nat} {w t c : Str} {a v : PyData} (hi : ("in" : Str) ∈ zs) (h1 : Eb 0 L zs m a) (h2 : Eb 0 L zs m v) (h3 : t ∈ zs) (h4 : c ∈ zs) : Eb 0 L zs (m + 4) (wrL w t c a v) := by
  unfold wrL
  refine .iff (m + 3) _ _ _ ?_ (h2.mono (Nat.le_refl _) (by omega)) (.cell (m + 2) t c _ h3 h4 (.key (m + 1)))
  split
  · exact .iff (m + 2) _ _ _ (.cell (m + 1) t "in" _ h3 hi (.key m)) (h1.mono (Nat.le_refl _) (by omega)) (.int (m + 1) 0 (by decide) (by decide))
  · exact .op (m + 2) "=" _ _ (by decide) (.key (m + 1)) (h1.mono (Nat.le_refl _) (by omega))
/-- .. and what comes of it is one again -/
theorem Eb.led {e : Nat} {L : List Int} {zs : List Str} {m : Nat} {pl : Int} {r : PyData} {mk : PyData → List PyData → PyData} (hi : ("in" : Str) ∈ zs) (hm : RowB L zs m pl r mk) {n : Nat} {x : PyData} (h : Eb e L zs n x) : Eb (e + 1) L zs (n + m + 5) (foldE W2 mk n x) := by
  have leaf : ∀ {n : Nat} {x : PyData}, Eb e L zs (n + 1) x → L41.kids x = [] → (∀ y, x ≠ letD y) → headW x ≠ "cell" → headW x ∉ aggW → foldE W2 mk (n + 1) x = x := by
    intro n x hx hk hl hc ha
    rw [foldE, kidsW2, hk, List.map_nil]
    have hx' : PyData.eqv x (letD pl) = false := by
      cases hx with
      | int n i _ _ => exact ne_let (by decide)
      | let_ n i _ _ _ => exact absurd rfl (hl i)
      | key n => exact ne_let (by decide)
      | cell n t v x _ _ _ => exact absurd rfl hc
      | op n o x y ho _ _ => exact ne_let (fun z => absurd (z ▸ ho) (by decide))
      | iff n x y z _ _ _ => exact ne_let (by decide)
      | agg n o t xs ys ho _ _ _ _ => exact absurd (aggs_w ho).1 ha
    cases hm with
    | let_ z E h => unfold mkG fL; rw [hx', if_neg Bool.false_ne_true]; rfl
    | wr w t c a v _ _ _ _ _ => unfold mkW; rw [if_neg (fun h => hc h.1), if_neg (fun h => ha h.1)]; rfl
    | oth w r _ _ _ _ => rfl
  induction h with
  | int n i h1 h2 =>
    rw [leaf (.int n i h1 h2) (kids_leaf (zs := zs) (.int i h1 h2)) (fun y z => by unfold letD at z; simp at z; exact absurd z.1 (by decide)) (show ¬ ("int" : Str) = "cell" by decide) (show ¬ ("int" : Str) ∈ aggW by decide)]
    exact .int (n + 1 + m + 4) i h1 h2
  | let_ n i h0 h1 h2 =>
    rw [foldE, kidsW2, show L41.kids (letD i) = [] from kids_leaf (zs := zs) (.let_ i h1 h2), List.map_nil]
    have self : Eb (e + 1) L zs (n + 1 + m + 5) (letD i) := .let_ (n + 1 + m + 4) i h0 h1 h2
    cases hm with
    | let_ z E h =>
      unfold mkG fL
      by_cases c : PyData.eqv (letD i) (letD pl) = true
      · rw [if_pos c]
        exact h.mono (by omega) (by omega)
      · rw [if_neg c]
        exact self
    | wr w t c a v _ _ _ _ _ =>
      unfold mkW
      rw [if_neg (fun h => absurd h.1 (show ¬ headW (letD i) = "cell" from by show ¬ ("let" : Str) = "cell"; decide)), if_neg (fun h => absurd h.1 (show ¬ headW (letD i) ∈ aggW from by show ¬ ("let" : Str) ∈ aggW; decide))]
      exact self
    | oth w r _ _ _ _ => exact self
  | key n =>
    rw [leaf (.key n) (kids_leaf (zs := zs) .key) (fun y z => by unfold letD at z; simp at z) (by decide) (by decide)]
    exact .key (n + 1 + m + 4)
  | cell n t v x h1 h2 h3 ih =>
    rw [foldE, kidsW2, kids_cell, List.map_cons, List.map_nil]
    have plain : chX (.tuple [.str "cell", .str t, x, .str v]) [foldE W2 mk n x] = .tuple [.str "cell", .str t, foldE W2 mk n x, .str v] := by
      unfold chX
      rw [if_neg (by simp), fill_cell]
    have self : Eb (e + 1) L zs (n + 1 + m + 5) (.tuple [.str "cell", .str t, foldE W2 mk n x, .str v]) := .cell (n + 1 + m + 4) t v _ h1 h2 (ih.mono (Nat.le_refl _) (by omega))
    cases hm with
    | let_ z E h =>
      unfold mkG fL at self plain ih ⊢
      rw [ne_let (by decide), if_neg Bool.false_ne_true]
      show Eb _ _ _ _ (chX _ _)
      unfold chX at plain ⊢
      rw [plain]
      exact self
    | wr w t' c a u hw ha hu ht hc =>
      by_cases hit : headW (.tuple [.str "cell", .str t, x, .str v]) = "cell" ∧ colOf (.tuple [.str "cell", .str t, x, .str v]) = some (t', c)
      · have : mkW (t', c) (wrL w t' c a u) (adX w c a) (.tuple [.str "cell", .str t, x, .str v]) [foldE W2 (mkW (t', c) (wrL w t' c a u) (adX w c a)) n x] = .tuple [.str "at", foldE W2 (mkW (t', c) (wrL w t' c a u) (adX w c a)) n x, wrL w t' c a u] := by
          unfold mkW
          rw [if_pos hit]
          rfl
        rw [this]
        exact .op (n + 1 + m + 4) "at" _ _ (by decide) (ih.mono (Nat.le_refl _) (by omega)) ((wrL_eb hi ha hu ht hc).mono (by omega) (by omega))
      · have : mkW (t', c) (wrL w t' c a u) (adX w c a) (.tuple [.str "cell", .str t, x, .str v]) [foldE W2 (mkW (t', c) (wrL w t' c a u) (adX w c a)) n x] = chX (.tuple [.str "cell", .str t, x, .str v]) [foldE W2 (mkW (t', c) (wrL w t' c a u) (adX w c a)) n x] := by
          unfold mkW
          rw [if_neg hit, if_neg (fun h => absurd h.1 (show ¬ ("cell" : Str) ∈ aggW by decide))]
        rw [this, plain]
        exact self
    | oth w r _ _ _ _ =>
      rw [plain]
      exact self
  | op n o x y h1 h2 h3 ih1 ih2 =>
    rw [foldE, kidsW2, kids_op h1, List.map_cons, List.map_cons, List.map_nil]
    have ho : o ∉ aggW ∧ o ≠ "cell" ∧ o ≠ "let" := (show ∀ o, o ∈ opws → o ∉ aggW ∧ o ≠ "cell" ∧ o ≠ "let" by decide) o h1
    have : mk (.tuple [.str o, x, y]) [foldE W2 mk n x, foldE W2 mk n y] = chX (.tuple [.str o, x, y]) [foldE W2 mk n x, foldE W2 mk n y] := by
      cases hm with
      | let_ z E h => unfold mkG fL; rw [ne_let ho.2.2, if_neg Bool.false_ne_true]; rfl
      | wr w t c a v _ _ _ _ _ => unfold mkW; rw [if_neg (fun h => ho.2.1 h.1), if_neg (fun h => ho.1 h.1)]
      | oth w r _ _ _ _ => rfl
    rw [this]
    unfold chX
    rw [if_neg (by simp), fill_op h1]
    exact .op (n + 1 + m + 4) o _ _ h1 (ih1.mono (Nat.le_refl _) (by omega)) (ih2.mono (Nat.le_refl _) (by omega))
  | iff n x y z h1 h2 h3 ih1 ih2 ih3 =>
    rw [foldE, kidsW2, kids_if, List.map_cons, List.map_cons, List.map_cons, List.map_nil]
    have : mk (.tuple [.str "if", x, y, z]) [foldE W2 mk n x, foldE W2 mk n y, foldE W2 mk n z] = chX (.tuple [.str "if", x, y, z]) [foldE W2 mk n x, foldE W2 mk n y, foldE W2 mk n z] := by
      cases hm with
      | let_ z E h => unfold mkG fL; rw [ne_let (by decide), if_neg Bool.false_ne_true]; rfl
      | wr w t c a v _ _ _ _ _ => unfold mkW; rw [if_neg (fun h => absurd h.1 (show ¬ ("if" : Str) = "cell" by decide)), if_neg (fun h => absurd h.1 (show ¬ ("if" : Str) ∈ aggW by decide))]
      | oth w r _ _ _ _ => rfl
    rw [this]
    unfold chX
    rw [if_neg (by simp), fill_if]
    exact .iff (n + 1 + m + 4) _ _ _ (ih1.mono (Nat.le_refl _) (by omega)) (ih2.mono (Nat.le_refl _) (by omega)) (ih3.mono (Nat.le_refl _) (by omega))
  | agg n o t xs ys h1 h2 h3 h4 h5 ih1 ih2 =>
    rw [foldE, kidsW2, kids_agg h1, List.map_append]
    have ho := (aggs_w h1).1
    have hch : chX (.tuple (.str o :: .str t :: .tuple xs :: ys)) (xs.map (foldE W2 mk n) ++ ys.map (foldE W2 mk n)) = .tuple (.str o :: .str t :: .tuple (xs.map (foldE W2 mk n)) :: ys.map (foldE W2 mk n)) := by
      have h2' := (aggs_w h1).2
      unfold chX
      rw [if_neg (by
        cases ys with
        | nil => simp at h2'
        | cons _ _ => simp), fill_agg h1 (List.length_map ..) (List.length_map ..)]
    have mk_ : ∀ ext : List PyData, ext.length ≤ 1 → (∀ y, y ∈ ext → Eb 0 L zs m y) → Eb (e + 1) L zs (n + 1 + m + 5) (.tuple (.str o :: .str t :: .tuple (xs.map (foldE W2 mk n) ++ ext) :: ys.map (foldE W2 mk n))) := by
      intro ext hl hx
      refine .agg (n + 1 + m + 4) o t _ _ (by rw [List.length_map]; exact h1) h2 (by rw [List.length_append, List.length_map]; omega) (fun y hy => ?_) (fun y hy => ?_)
      · rcases List.mem_append.mp hy with hy | hy
        · obtain ⟨z, hz, rfl⟩ := List.mem_map.mp hy
          exact (ih1 z hz).mono (Nat.le_refl _) (by omega)
        · exact (hx y hy).mono (by omega) (by omega)
      · obtain ⟨z, hz, rfl⟩ := List.mem_map.mp hy
        exact (ih2 z hz).mono (Nat.le_refl _) (by omega)
    have m0 := mk_ [] (by decide) (fun y hy => (nomatch hy))
    rw [List.append_nil] at m0
    have m1 : ∀ p, Eb 0 L zs m p → _ := fun p hp => mk_ [p] (Nat.le_refl _) (fun y hy => by rw [List.mem_singleton.mp hy]; exact hp)
    revert m0 m1 hch
    clear mk_ ih1 ih2
    generalize xs.map (foldE W2 mk n) = qa
    generalize ys.map (foldE W2 mk n) = qb
    intro hch m0 m1
    cases hm with
    | let_ z E h =>
      have : mkG W2 (fL pl E) (.tuple (.str o :: .str t :: .tuple xs :: ys)) (qa ++ qb) = chX (.tuple (.str o :: .str t :: .tuple xs :: ys)) (qa ++ qb) := by
        unfold mkG fL
        rw [ne_let (fun z => absurd (z ▸ ho) (by decide)), if_neg Bool.false_ne_true]
        rfl
      rw [this, hch]
      exact m0
    | wr w t' c a v hw ha _ _ _ =>
      unfold mkW
      rw [if_neg (fun h => agg_ne ho h.1), hch]
      split
      · show Eb (e + 1) L zs (n + 1 + m + 5) (.tuple (.str o :: .str t :: .tuple (qa ++ adX w c a) :: qb))
        by_cases hq : w = "put" ∧ c = "in"
        · rw [show adX w c a = [a] from if_pos hq]
          exact m1 a ha
        · rw [show adX w c a = [] from if_neg hq, List.append_nil]
          exact m0
      · exact m0
    | oth w r _ _ _ _ =>
      rw [hch]
      exact m0
end L41

namespace L41
open PySem PySem.Spec PyProof.Rows L2 GR WX TX UA RZ
/-! ### what was drawn, closed -/
theorem row_eb {L : List Int} {Z : List Str} {e n : Nat} {t : Str} (hi : ("in" : Str) ∈ Z) (ht : t ∈ Z) (hn : 2 ≤ n) : Eb e L Z n (rowX t) := by
  obtain ⟨k, rfl⟩ : ∃ k, n = k + 2 := ⟨n - 2, by omega⟩
  exact .cell (k + 1) t "in" _ ht hi (.key k)
theorem Cx.eb {zs sc Z : List Str} {L : List Int} {lz : Str → Option Int} (hp : ("+" : Str) ∉ zs) (hZ : ∀ t, t ∈ zs → t ≠ "#" → t ∈ Z) (hi : ("in" : Str) ∈ Z) (hl : ∀ z, z ∈ sc → ∃ q, lz z = some q ∧ q ∈ L ∧ 0 ≤ q ∧ q ≤ 10000) {b : Bool} {n : Nat} {x : PyData} (h : Cx zs sc b n x) : Eb 0 L Z n (L41.varW lz n x) := by
  induction h with
  | int b n i h1 h2 => rw [v_leaf (zs := []) (.int i h1 h2) (by decide)]; exact .int n i h1 h2
  | let_ b n i g h1 h2 => exact absurd g hp
  | key n => rw [v_leaf (zs := []) .key (by decide)]; exact .key n
  | var b n z h1 =>
    obtain ⟨q, e, q1, q2, q3⟩ := hl z h1
    rw [v_var e]
    exact .let_ n q q1 q2 q3
  | cell b n t v x h1 h2 _ ih => rw [v_cell]; exact .cell n t v _ (hZ t h1.1 h1.2) (hZ v h2.1 h2.2) ih
  | op b n o x y h1 _ _ ih1 ih2 =>
    have ho := (show ∀ o, o ∈ ops5 → o ∈ opws by decide) o h1
    rw [v_op ho]
    exact .op n o _ _ ho ih1 ih2
  | at_ b n x y _ _ ih1 ih2 => rw [v_op (by decide)]; exact .op n "at" _ _ (by decide) ih1 ih2
  | iff b n x y z _ _ _ ih1 ih2 ih3 => rw [v_if]; exact .iff n _ _ _ ih1 ih2 ih3
  | agg b n o t p xs vs ds hh h0 h1 h2 h3 _ _ _ _ _ ih2 ih3 ih4 =>
    obtain rfl : xs = [] := List.eq_nil_of_length_eq_zero (Nat.le_zero.mp h3)
    rw [v_agg h1, v_row h0]
    refine .agg n o t [] _ ?_ (hZ t h2.1 h2.2) (Nat.le_refl _) (fun x hx => (nomatch hx)) fun y hy => ?_
    · rw [List.length_cons, List.length_cons, List.length_append, List.length_map, List.length_map]
      exact (aggk_aggs h1).1
    · rcases List.mem_cons.mp hy with rfl | hy
      · exact row_eb hi (hZ t h2.1 h2.2) h0
      rcases List.mem_cons.mp hy with rfl | hy
      · exact ih2
      rcases List.mem_append.mp hy with hy | hy
      · obtain ⟨z, hz, rfl⟩ := List.mem_map.mp hy
        exact ih3 z hz
      · obtain ⟨z, hz, rfl⟩ := List.mem_map.mp hy
        exact ih4 z hz
theorem Cx.eb0 {zs Z : List Str} {L : List Int} (hp : ("+" : Str) ∉ zs) (hZ : ∀ t, t ∈ zs → t ≠ "#" → t ∈ Z) (hi : ("in" : Str) ∈ Z) {b : Bool} {n : Nat} {x : PyData} (h : Cx zs [] b n x) : Eb 0 L Z n x := by
  induction h with
  | int b n i h1 h2 => exact .int n i h1 h2
  | let_ b n i g h1 h2 => exact absurd g hp
  | key n => exact .key n
  | var b n z h1 => exact (nomatch h1)
  | cell b n t v x h1 h2 _ ih => exact .cell n t v _ (hZ t h1.1 h1.2) (hZ v h2.1 h2.2) ih
  | op b n o x y h1 _ _ ih1 ih2 => exact .op n o _ _ ((show ∀ o, o ∈ ops5 → o ∈ opws by decide) o h1) ih1 ih2
  | at_ b n x y _ _ ih1 ih2 => exact .op n "at" _ _ (by decide) ih1 ih2
  | iff b n x y z _ _ _ ih1 ih2 ih3 => exact .iff n _ _ _ ih1 ih2 ih3
  | agg b n o t p xs vs ds hh h0 h1 h2 h3 _ _ _ _ _ ih2 ih3 ih4 =>
    obtain rfl : xs = [] := List.eq_nil_of_length_eq_zero (Nat.le_zero.mp h3)
    refine .agg n o t [] _ ?_ (hZ t h2.1 h2.2) (Nat.le_refl _) (fun x hx => (nomatch hx)) fun y hy => ?_
    · rw [List.length_cons, List.length_cons, List.length_append]
      exact (aggk_aggs h1).1
    · rcases List.mem_cons.mp hy with rfl | hy
      · exact row_eb hi (hZ t h2.1 h2.2) h0
      rcases List.mem_cons.mp hy with rfl | hy
      · exact ih2
      rcases List.mem_append.mp hy with hy | hy
      · exact ih3 y hy
      · exact ih4 y hy
def bC : Nat → Nat
  | 0 => 0
  | n + 1 => 1 + 5 * bC n
theorem Cx.kids5 {zs sc : List Str} {b : Bool} {n : Nat} {x : PyData} (h : Cx zs sc b n x) : (L41.kids x).length ≤ 5 := by
  cases h with
  | int b n i h1 h2 => rw [kids_leaf (zs := zs) (.int i h1 h2)]; decide
  | let_ b n i g9 h1 h2 => rw [kids_leaf (zs := zs) (.let_ i h1 h2)]; decide
  | key n => rw [kids_leaf (zs := zs) .key]; decide
  | var b n z h1 => rw [kids_leaf (zs := sc) (.var z h1)]; decide
  | cell b n t v x h1 h2 h3 => rw [kids_cell]; simp
  | op b n o x y h1 h2 h3 => rw [kids_op ((show ∀ o, o ∈ ops5 → o ∈ opws by decide) o h1)]; simp
  | at_ b n x y h2 h3 => rw [kids_op (by decide)]; simp
  | iff b n x y z h1 h2 h3 => rw [kids_if]; simp
  | agg b n o t p xs vs ds g0 h0 h1 h2 h3 h4 h5 h6 h7 =>
    rw [kids_agg (by rw [List.length_cons, List.length_cons, List.length_append]; exact (aggk_aggs h1).1)]
    have := (aggk_aggs h1).2
    simp only [List.length_append, List.length_cons]
    omega
theorem Cx.size {zs sc : List Str} (hi : ("in" : Str) ∈ zs) : ∀ {n : Nat} {b : Bool} {x : PyData}, Cx zs sc b n x → (flatP n x).length ≤ bC n
  | 0, _, _, h => by cases h
  | n + 1, b, x, h => by
    rw [flatP, List.length_cons]
    have h5 := h.kids5
    have hk := h.kids hi
    have aux : ∀ l : List PyData, (∀ y, y ∈ l → ∃ b', Cx zs sc b' n y) → (l.flatMap (flatP n)).length ≤ l.length * bC n := by
      intro l
      induction l with
      | nil => intro _; simp
      | cons y l ih =>
        intro hk
        rw [List.flatMap_cons, List.length_append, List.length_cons, Nat.succ_mul]
        obtain ⟨b', hy⟩ := hk y List.mem_cons_self
        have h1 := Cx.size hi hy
        have h2 := ih fun z hz => hk z (List.mem_cons_of_mem _ hz)
        omega
    have := aux _ hk
    have h2 : (L41.kids x).length * bC n ≤ 5 * bC n := Nat.mul_le_mul_right _ h5
    show _ ≤ 1 + 5 * bC n
    omega
/-- the positions of the lets -/
def letPos (es : List Ent) : List Int := (es.filter fun e => (letNm e.2).isSome).map (·.1)
theorem mem_letPos {es : List Ent} {q : Int} : q ∈ letPos es ↔ ∃ e, e ∈ es ∧ e.1 = q ∧ ∃ z, letNm e.2 = some z := by
  unfold letPos
  rw [List.mem_map]
  constructor
  · rintro ⟨e, h, rfl⟩
    obtain ⟨h1, h2⟩ := List.mem_filter.mp h
    exact ⟨e, h1, rfl, Option.isSome_iff_exists.mp h2⟩
  · rintro ⟨e, h1, rfl, z, h2⟩
    exact ⟨e, List.mem_filter.mpr ⟨h1, by rw [h2]; rfl⟩, rfl⟩
abbrev ZN (ts cs : List Str) : List Str := ("in" : Str) :: (ts ++ cs)
theorem nmx_ZN {ts cs : List Str} {l : Int} : ∀ t, t ∈ nmx l ts cs → t ≠ "#" → t ∈ ZN ts cs := by
  intro t h hn
  simp only [nmx, mark, List.mem_cons, List.mem_append] at h ⊢
  rcases h with h | h | h | h
  · exact .inl h
  · exact .inr (.inl h)
  · exact .inr (.inr h)
  · exfalso
    split at h
    · simp only [List.mem_cons, List.not_mem_nil, or_false] at h
      exact hn h
    · exact nomatch h
end L41

namespace L41
open PySem PySem.Spec PyProof.Rows L2 GR WX TX UA RZ
/-! ### an entry of the log: its row, the step over it -/
/-- the names of a world -/
structure NamesOk (ts cs : List Str) : Prop where
  nm : ∀ z, z ∈ ts ++ cs → Nm z
  len : ts.length + cs.length ≤ 6
theorem nm_so {z : Str} (h : Nm z) : PyData.strOk z = true := so_iff.mpr fun c hc => Nat.lt_of_le_of_lt (h.2.2.1 c hc).2 (by decide)
theorem Nm.ne {z o : Str} (h : Nm z) (ho : (o.cps.toList.all fun c => decide (97 ≤ c) && decide (c ≤ 122)) = false) : z ≠ o := fun e => by
  subst e
  rw [Bool.eq_false_iff] at ho
  exact ho (List.all_eq_true.mpr fun c hc => by
    obtain ⟨a, b⟩ := h.2.2.1 c hc
    simp only [Bool.and_eq_true, decide_eq_true_eq]
    exact ⟨a, b⟩)
theorem NamesOk.plus {ts cs : List Str} (N : NamesOk ts cs) {l : Int} : ("+" : Str) ∉ nmx l ts cs := fun h => by
  have := nmx_ZN _ h (by decide)
  rcases List.mem_cons.mp this with h | h
  · exact absurd h (by decide)
  · exact (N.nm _ h).ne (o := "+") (by decide +kernel) rfl
theorem NamesOk.zn {ts cs : List Str} (N : NamesOk ts cs) : NOks (ZN ts cs) := fun z hz => by
  rcases List.mem_cons.mp hz with rfl | h
  · exact ok_words "in" (by decide)
  · exact nm_so (N.nm z h)
theorem NamesOk.nmx {ts cs sc : List Str} (N : NamesOk ts cs) (hs : ∀ z, z ∈ sc → Nm z) {l : Int} : NOks (L41.nmx l ts cs ++ sc) := fun z hz => by
  rcases List.mem_append.mp hz with h | h
  · by_cases e : z = "#"
    · rw [e]
      decide +kernel
    · exact N.zn z (nmx_ZN z h e)
  · exact nm_so (hs z h)
theorem in_nmx {l : Int} {ts cs : List Str} : ("in" : Str) ∈ nmx l ts cs := List.mem_cons_self
theorem v_up {zs sc : List Str} {b : Bool} {n m : Nat} {x : PyData} {lz : Str → Option Int} (hi : ("in" : Str) ∈ zs) (h : Cx zs sc b n x) (hn : n ≤ m) : L41.varW lz m x = L41.varW lz n x := foldE_stable (fun _ h => h) (h.ex hi) hn
theorem wrL_each {t c : Str} {a v : PyData} : wrL "each" t c a v = wrX "each" t c (guardX t a) v := by
  unfold wrL wrX
  rw [if_pos rfl, if_neg (show ¬ ("each" : Str) = "put" by decide)]
  rfl
theorem wrL_put {t c : Str} {a v : PyData} : wrL "put" t c a v = wrX "put" t c a v := by
  unfold wrL wrX
  rw [if_neg (show ¬ ("put" : Str) = "each" by decide), if_pos rfl]
theorem adX_each {c : Str} {a : PyData} : adX "each" c a = [] := if_neg (fun h => absurd h.1 (by decide))
theorem StX.scNm {ts cs sc : List Str} {x : PyData} (h : StX ts cs sc x) {z : Str} (e : letNm x = some z) : Nm z := by
  cases h with
  | let_ z' x h1 _ _ =>
    have : letNm (.tuple [.str "let", .str z', x]) = some z' := rfl
    rw [this] at e
    cases e
    exact h1
  | need x _ => exact absurd e (by rw [letNm_no (by decide)]; simp)
  | tell x _ => exact absurd e (by rw [letNm_no (by decide)]; simp)
  | each t z' x y _ _ _ _ => exact absurd e (by rw [letNm_no (by decide)]; simp)
  | put t z' x y _ _ _ _ => exact absurd e (by rw [letNm_no (by decide)]; simp)
/-- all that a step over an entry needs -/
structure StepE (K : PySem.W.Frag) (ms : List Int) (es : List Ent) (ts cs : List Str) (e : Ent) (r : PyData) (mk : PyData → List PyData → PyData) : Prop where
  row : RowB (letPos es) (ZN ts cs) 7 e.1 r mk
  isL : (∃ z, letNm e.2 = some z) → ∃ z E, r = .tuple [.str "let", .str z, E]
  key : ∃ k, KeyOf e.2 e.1 k ∧ ((k = .no ∧ mk = chX) ∨ ((k = .nm e.1 ∧ ∃ E, mk = mkG W2 (fL e.1 E)) ∨ ∃ d wr ad, k = .tp d ∧ mk = mkW d wr ad ∧ (d.2 ≠ "in" → ad = [])) ∧ ∀ (H : Hp) (lg : Addr) (v : V), LgD K H lg ms es → Dp K H v e.2 → LoP K H lg v e.1 mk)
theorem entry_ok {K : PySem.W.Frag} {ms : List Int} {es : List Ent} {ts cs : List Str} (G : GoodL ms es ts cs) (N : NamesOk ts cs) {i : Nat} {e : Ent} (h : es[i]? = some e) : ∃ mk, StepE K ms es ts cs e (clD (lzLaw (es.take i)) 14 e.2) mk := by
  obtain ⟨sc, lo, i0, hx, hlo, h1, h2, h3, h4⟩ := G.ent i e h
  have hs : ∀ z, z ∈ sc → ∃ q, lzLaw (es.take i) z = some q ∧ lzOf lo e.1 es z = some q ∧ ∃ e', e' ∈ es ∧ q = e'.1 := fun z hz => scope_ok G.asc h h1 h2 h3 (h4 z hz)
  have scN : ∀ z, z ∈ sc → Nm z := fun z hz => by
    obtain ⟨e', hm, hl⟩ := h4 z hz
    obtain ⟨j, hj⟩ := List.mem_iff_getElem?.mp (List.mem_of_mem_take (List.mem_of_mem_drop hm))
    obtain ⟨_, _, _, hx', _⟩ := G.ent j e' hj
    exact hx'.scNm hl
  have hl : ∀ z, z ∈ sc → ∃ q, lzOf lo e.1 es z = some q ∧ q ∈ letPos es ∧ 0 ≤ q ∧ q ≤ 10000 := by
    intro z hz
    obtain ⟨q, g1, g2, _⟩ := hs z hz
    -- the value is the place of a let
    have : q ∈ letPos es := by
      unfold lzLaw lzK at g1
      obtain ⟨e', hm, hl⟩ := h4 z hz
      have hk := letsAll_mem hl (List.mem_of_mem_drop hm)
      obtain ⟨_, p, m1, m2, m3⟩ := merge_in hk [] []
      rw [m3] at g1
      obtain ⟨z', e2, n1, n2⟩ : ∃ z' e2, e2 ∈ es.take i ∧ p = (.inr z', .int e2.1) ∧ ∃ z, letNm e2.2 = some z := by
        have gen : ∀ {a : List Ent} {p : Key × V}, p ∈ letsAll a → ∃ z e, e ∈ a ∧ p = (.inr z, .int e.1) ∧ ∃ z, letNm e.2 = some z := by
          intro a
          induction a with
          | nil => exact fun h => (nomatch h)
          | cons x a ih =>
            intro p hp
            rw [letsAll] at hp
            split at hp
            · rename_i z'' hz''
              rcases List.mem_cons.mp hp with rfl | hp
              · exact ⟨z'', x, List.mem_cons_self, rfl, z'', hz''⟩
              · obtain ⟨a1, a2, a3, a4⟩ := ih hp
                exact ⟨a1, a2, List.mem_cons_of_mem _ a3, a4⟩
            · obtain ⟨a1, a2, a3, a4⟩ := ih hp
              exact ⟨a1, a2, List.mem_cons_of_mem _ a3, a4⟩
        exact gen m1
      obtain ⟨n2, n3⟩ := n2
      subst n2
      have : q = e2.1 := by
        simp only [Option.some.injEq] at g1
        exact g1.symm
      rw [this]
      exact mem_letPos.mpr ⟨e2, List.mem_of_mem_take n1, rfl, n3⟩
    obtain ⟨e', he', rfl, _⟩ := mem_letPos.mp this
    have b := G.bd e' he'
    exact ⟨_, g2, this, b.1, by omega⟩
  have hcl := closed_same hx fun z hz => by
    obtain ⟨q, a, b, _⟩ := hs z hz
    exact ⟨q, a, b⟩
  rw [hcl]
  have hst := (hx.cw (lz := lzOf lo e.1 es) fun z hz => by
    obtain ⟨q, a, _⟩ := hl z hz
    exact ⟨q, a⟩)
  have eb : ∀ {l : Int} {b : Bool} {x : PyData}, Cx (nmx l ts cs) sc b 5 x → Eb 0 (letPos es) (ZN ts cs) 7 (L41.varW (lzOf lo e.1 es) 5 x) := fun hx => (hx.eb N.plus nmx_ZN List.mem_cons_self hl).mono (Nat.le_refl _) (by decide)
  have ok0 := N.nmx (l := 0) scN
  obtain ⟨p, y⟩ := e
  cases hx with
  | let_ z E hz hn hE =>
    have hr : clD (lzOf lo p es) 14 (.tuple [.str "let", .str z, E]) = .tuple [.str "let", .str z, L41.varW (lzOf lo p es) 5 E] := hst.2
    rw [hr]
    refine ⟨_, .let_ z _ (eb hE), fun _ => ⟨z, _, rfl⟩, ⟨.nm p, .inl ⟨_, rfl, rfl⟩, .inr ⟨.inl ⟨rfl, _, rfl⟩, fun H lg v hL hd => .inl ⟨lo, ms, es, z, E, nmx 0 ts cs ++ sc, 5, ⟨hL, hlo, G.msl, G.esl, hd, hE.ex in_nmx, ok0, Nat.le_trans (hE.size in_nmx) (by decide)⟩, rfl⟩⟩⟩⟩
  | need E hE =>
    refine ⟨chX, ?_, fun ⟨z, hz⟩ => absurd hz (by rw [letNm_no (by decide)]; simp), ⟨.no, .inr ⟨none, ⟨"need", _, rfl, .inr ⟨by decide, by decide, rfl⟩⟩, (show ¬ ("need" : Str) = "let" by decide), rfl⟩, .inl ⟨rfl, rfl⟩⟩⟩
    have hf : flatD (clD (lzOf lo p es) 14 (.tuple [.str "need", .tuple [.str "<", .tuple [.str "int", .int (0 - 3)], E]])) = true := clD_flat hst.1 (by
      have := (hE.ex in_nmx).flat
      simp only [flatD, flatDs, this, Bool.and_self])
    rw [clD_tup (by decide)] at hf ⊢
    refine .oth "need" _ (by decide) (by decide) (by decide) ?_
    rw [flatD, flatDs, Bool.and_eq_true] at hf
    exact hf.2
  | tell E hE =>
    refine ⟨chX, ?_, fun ⟨z, hz⟩ => absurd hz (by rw [letNm_no (by decide)]; simp), ⟨.no, .inr ⟨none, ⟨"tell", _, rfl, .inr ⟨by decide, by decide, rfl⟩⟩, (show ¬ ("tell" : Str) = "let" by decide), rfl⟩, .inl ⟨rfl, rfl⟩⟩⟩
    have hf : flatD (clD (lzOf lo p es) 14 (.tuple [.str "tell", E])) = true := clD_flat hst.1 (by
      have := (hE.ex in_nmx).flat
      simp only [flatD, flatDs, this, Bool.and_self])
    rw [clD_tup (by decide)] at hf ⊢
    refine .oth "tell" _ (by decide) (by decide) (by decide) ?_
    rw [flatD, flatDs, Bool.and_eq_true] at hf
    exact hf.2
  | each t z A U ht hz hA hU =>
    have hr : clD (lzOf lo p es) 14 (.tuple [.str "each", .str t, A, .str z, U]) = wrD "each" t z (L41.varW (lzOf lo p es) 5 A) (L41.varW (lzOf lo p es) 5 U) := hst.2
    rw [hr]
    have hA0 : Cx (nmx 0 ts cs) sc true 5 A := hA.wide (fun z hz => by
      simp only [nmx, mark, List.mem_cons, List.mem_append] at hz ⊢
      rcases hz with h | h | h | h
      · exact .inl h
      · exact .inr (.inl h)
      · exact .inr (.inr (.inl h))
      · exact absurd h (by simp)) (fun _ h => h)
    have hU0 : Cx (nmx 0 ts cs) sc true 5 U := hU.wide (fun z hz => by
      simp only [nmx, mark, List.mem_cons, List.mem_append] at hz ⊢
      rcases hz with h | h | h | h
      · exact .inl h
      · exact .inr (.inl h)
      · exact .inr (.inr (.inl h))
      · exact absurd h (by simp)) (fun _ h => h)
    have htn : t ≠ "#" := (N.nm t (List.mem_append_left _ ht)).ne (o := "#") (by decide +kernel)
    have hg : Cx (nmx 0 ts cs) sc true 7 (guardX t A) := .iff true 6 _ _ _ (.cell true 5 t "in" _ ⟨List.mem_cons_of_mem _ (List.mem_append_left _ ht), htn⟩ ⟨List.mem_cons_self, by decide⟩ (.key 4)) (hA0.mono (by decide)) (.int true 5 0 (by decide) (by decide))
    refine ⟨_, .wr "each" t z _ _ (.inr rfl) (eb hA) (eb hU) (List.mem_cons_of_mem _ (List.mem_append_left _ ht)) (List.mem_cons_of_mem _ (List.mem_append_right _ hz)), fun ⟨z', hz'⟩ => absurd hz' (by rw [letNm_no (by decide)]; simp), ⟨.tp (t, z), .inr ⟨some (t, z), col_wr (Pd := A) (U := U) (.inr rfl), (show ¬ ("each" : Str) = "let" by decide), rfl⟩, .inr ⟨.inr ⟨(t, z), _, _, rfl, rfl, fun _ => if_neg (fun h => absurd h.1 (by decide))⟩, fun H lg v hL hd => .inr ⟨lo, ms, es, "each", t, z, A, U, nmx 0 ts cs ++ sc, 7, ⟨hL, hlo, G.msl, G.esl, hd, .inr rfl, (hA0.ex in_nmx).flat, hg.ex in_nmx, (hU0.mono (by decide)).ex in_nmx, ok0, Nat.le_trans (hg.size in_nmx) (by decide), Nat.le_trans ((hU0.mono (show 5 ≤ 7 by decide)).size in_nmx) (by decide)⟩, ?_⟩⟩⟩⟩
    have e1 : L41.varW (lzOf lo p es) 7 (condX "each" t A) = guardX t (L41.varW (lzOf lo p es) 5 A) := by
      show L41.varW (lzOf lo p es) 7 (.tuple [.str "if", rowX t, A, intD 0]) = _
      rw [v_if, v_row (by decide), v_up in_nmx hA0 (by decide), show L41.varW (lzOf lo p es) 6 (intD 0) = intD 0 from v_leaf (zs := []) (.int 0 (by decide) (by decide)) (by decide)]
      rfl
    have e2 : L41.varW (lzOf lo p es) 7 U = L41.varW (lzOf lo p es) 5 U := v_up in_nmx hU0 (by decide)
    show mkW (t, z) _ _ = mkW (t, z) (wrX "each" t z (L41.varW (lzOf lo p es) 7 (condX "each" t A)) (L41.varW (lzOf lo p es) 7 U)) (adX "each" z (L41.varW (lzOf lo p es) 7 (condX "each" t A)))
    rw [e1, e2, wrL_each, adX_each, adX_each]
  | put t z A U ht hz hA hU =>
    have hr : clD (lzOf lo p es) 14 (.tuple [.str "put", .str t, A, .str z, U]) = wrD "put" t z (L41.varW (lzOf lo p es) 5 A) (L41.varW (lzOf lo p es) 5 U) := hst.2
    rw [hr]
    have hzn : z ∈ ZN ts cs := hz.elim (fun h => List.mem_cons_of_mem _ (List.mem_append_right _ h)) (fun h => by rw [h]; exact List.mem_cons_self)
    refine ⟨_, .wr "put" t z _ _ (.inl rfl) (eb hA) (eb hU) (List.mem_cons_of_mem _ (List.mem_append_left _ ht)) hzn, fun ⟨z', hz'⟩ => absurd hz' (by rw [letNm_no (by decide)]; simp), ⟨.tp (t, z), .inr ⟨some (t, z), col_wr (Pd := A) (U := U) (.inl rfl), (show ¬ ("put" : Str) = "let" by decide), rfl⟩, .inr ⟨.inr ⟨(t, z), _, _, rfl, rfl, fun h => if_neg (fun h' => h h'.2)⟩, fun H lg v hL hd => .inr ⟨lo, ms, es, "put", t, z, A, U, nmx 0 ts cs ++ sc, 7, ⟨hL, hlo, G.msl, G.esl, hd, .inl rfl, (hA.ex in_nmx).flat, (hA.mono (by decide)).ex in_nmx, (hU.mono (by decide)).ex in_nmx, ok0, Nat.le_trans ((hA.mono (show 5 ≤ 7 by decide)).size in_nmx) (by decide), Nat.le_trans ((hU.mono (show 5 ≤ 7 by decide)).size in_nmx) (by decide)⟩, ?_⟩⟩⟩⟩
    have e1 : L41.varW (lzOf lo p es) 7 (condX "put" t A) = L41.varW (lzOf lo p es) 5 A := v_up in_nmx hA (by decide)
    have e2 : L41.varW (lzOf lo p es) 7 U = L41.varW (lzOf lo p es) 5 U := v_up in_nmx hU (by decide)
    show mkW (t, z) _ _ = mkW (t, z) (wrX "put" t z (L41.varW (lzOf lo p es) 7 (condX "put" t A)) (L41.varW (lzOf lo p es) 7 U)) (adX "put" z (L41.varW (lzOf lo p es) 7 (condX "put" t A)))
    rw [e1, e2, wrL_put]
end L41

namespace L41
open PySem PySem.Spec PyProof.Rows L2 GR WX TX UA RZ
/-! ### a step that is due -/
theorem Eb.head {e : Nat} {L : List Int} {zs : List Str} {n : Nat} {x : PyData} (h : Eb e L zs n x) : headW x ≠ "var" := by
  cases h with
  | int n i _ _ => show ¬ ("int" : Str) = "var"; decide
  | let_ n i _ _ _ => show ¬ ("let" : Str) = "var"; decide
  | key n => show ¬ ("key" : Str) = "var"; decide
  | cell n t v x _ _ _ => show ¬ ("cell" : Str) = "var"; decide
  | op n o x y ho _ _ => exact (show ∀ o, o ∈ opws → ¬ o = "var" by decide) o ho
  | iff n x y z _ _ _ => show ¬ ("if" : Str) = "var"; decide
  | agg n o t xs ys ho _ _ _ _ => exact (show ∀ o, o ∈ aggW → ¬ o = "var" by decide) o (aggs_w ho).1
theorem Eb.let_eq {e : Nat} {L : List Int} {zs : List Str} {n : Nat} {x : PyData} {pl : Int} (h : Eb e L zs n x) (he : PyData.eqv x (letD pl) = true) : x = letD pl ∧ pl ∈ L := by
  cases h with
  | int n i _ _ => rw [ne_let (by decide)] at he; cases he
  | let_ n i h0 _ _ =>
    unfold letD at he
    simp only [PyData.eqv, PyData.eqvAll, Bool.and_eq_true, beq_iff_eq, Bool.and_true] at he
    rw [← he.2]
    exact ⟨rfl, h0⟩
  | key n => rw [ne_let (by decide)] at he; cases he
  | cell n t v x _ _ _ => rw [ne_let (by decide)] at he; cases he
  | op n o x y ho _ _ => rw [ne_let ((show ∀ o, o ∈ opws → ¬ o = "let" by decide) o ho)] at he; cases he
  | iff n x y z _ _ _ => rw [ne_let (by decide)] at he; cases he
  | agg n o t xs ys ho _ _ _ _ => rw [ne_let ((show ∀ o, o ∈ aggW → ¬ o = "let" by decide) o (aggs_w ho).1)] at he; cases he
theorem eqv_letD (q : Int) : PyData.eqv (letD q) (letD q) = true := by
  unfold letD
  simp [PyData.eqv, PyData.eqvAll]
theorem addX_nil (x : PyData) : addX [] x = x := by
  unfold addX
  split
  · rw [List.append_nil]
  · rfl
theorem due_ok {K : PySem.W.Frag} {ms : List Int} {es : List Ent} {ts cs : List Str} (G : GoodL ms es ts cs) (N : NamesOk ts cs) {e n : Nat} {x : PyData} (hx : Eb e (letPos es) (ZN ts cs) n x) (he : e ≤ 39) (pl : Int) :
    ∃ r mk, RowM (rowsD es) pl r mk ∧ RowB (letPos es) (ZN ts cs) 7 pl r mk ∧ PartsOk pl r n x ∧ ∀ (H : Hp) (lg : Addr), LgD K H lg ms es → DueP K H lg es pl x n (foldE W2 mk n x) := by
  have hex := hx.ex (by omega : e ≤ 40)
  have hnd : (es.map (·.1)).Nodup := G.asc.imp fun {a b} h => by omega
  have hself : ∀ y, y ∈ flatP n x → chX y (L41.kids y) = y := fun y hy => by
    obtain ⟨m, h⟩ := hx.parts y hy
    exact ch_self (h.ex (by omega : e ≤ 40))
  have hid : foldE W2 chX n x = x := fold_id hex hself
  by_cases h0 : ∃ ent, ent ∈ es ∧ ent.1 = pl
  · obtain ⟨ent, hm, rfl⟩ := h0
    obtain ⟨i, hi⟩ := List.mem_iff_getElem?.mp hm
    obtain ⟨mk, S⟩ := entry_ok (K := K) G N hi
    refine ⟨_, mk, ⟨S.row.k N.zn, .inr ⟨by rw [rowsD_pos]; exact hnd, _, List.mem_of_getElem? (rowsD_at hi), rfl, rfl⟩⟩, S.row, fun y hy => ?_, fun H lg hL => ?_⟩
    · obtain ⟨m, h⟩ := hx.parts y hy
      refine ⟨h.head, fun ey => S.isL ?_⟩
      obtain ⟨_, hl⟩ := h.let_eq (pl := ent.1) (by rw [ey]; exact eqv_letD _)
      obtain ⟨e', h1, h2, h3⟩ := mem_letPos.mp hl
      rw [← same_ent hnd h1 hm h2]
      exact h3
    · obtain ⟨k, hk, hc⟩ := S.key
      refine .inr ⟨ent, k, hm, rfl, hk, ?_⟩
      rcases hc with ⟨rfl, rfl⟩ | ⟨hc, hlo⟩
      · refine .inl ⟨fun hR => ?_, hid⟩
        rcases hR with ⟨p, h, _⟩ | ⟨i, h, _⟩ <;> cases h
      · by_cases hR : Reads n x k
        · exact .inr ⟨hR, mk, fun H' v kt hd => hlo H' lg v (hL.keep kt) hd, rfl⟩
        · refine .inl ⟨hR, fold_id hex fun y hy => ?_⟩
          obtain ⟨m, hyb⟩ := hx.parts y hy
          have hyl := lvls_mem.mpr hy
          rcases hc with ⟨rfl, E, rfl⟩ | ⟨d, wr, ad, rfl, rfl, had⟩
          · unfold mkG fL
            by_cases c : PyData.eqv y (letD ent.1) = true
            · exfalso
              obtain ⟨ey, _⟩ := hyb.let_eq c
              refine hR (.inr ⟨ent.1, rfl, ?_⟩)
              unfold letsP
              rw [List.mem_filterMap]
              exact ⟨y, hyl, by rw [ey]; unfold letD letP; simp⟩
            · rw [if_neg c]
              exact hself y hy
          · have hno : colOf y ≠ some d := fun e => hR (.inl ⟨d, rfl, by
              unfold cols
              rw [List.mem_filterMap]
              exact ⟨y, hyl, e⟩⟩)
            unfold mkW
            rw [if_neg (fun h => hno h.2)]
            split
            · rename_i h
              by_cases hd : d.2 = "in"
              · exfalso
                refine hno ?_
                rw [h.2, ← hd]
              · rw [had hd, addX_nil]
                exact hself y hy
            · exact hself y hy
  · have hno : ∀ ent, ent ∈ es → ent.1 ≠ pl := fun ent h1 h2 => h0 ⟨ent, h1, h2⟩
    have hB : RowB (letPos es) (ZN ts cs) 7 pl needD chX := .oth "need" _ (by decide) (by decide) (by decide) rfl
    refine ⟨needD, chX, ⟨hB.k N.zn, .inl ⟨fun ent hm e => ?_, rfl⟩⟩, hB, fun y hy => ?_, fun H lg _ => .inl ⟨hno, hid⟩⟩
    · have h1 : ent.1 ∈ (rowsD es).map (·.1) := List.mem_map_of_mem (f := (·.1)) hm
      rw [rowsD_pos] at h1
      obtain ⟨e', h2, h3⟩ := List.mem_map.mp h1
      exact hno e' h2 (h3.trans e)
    · obtain ⟨m, h⟩ := hx.parts y hy
      refine ⟨h.head, fun ey => ?_⟩
      obtain ⟨_, hl⟩ := h.let_eq (pl := pl) (by rw [ey]; exact eqv_letD _)
      obtain ⟨e', h1, h2, _⟩ := mem_letPos.mp hl
      exact absurd h2 (hno e' h1)
/-- as deep as it is -/
theorem Eb.tight {e : Nat} {L : List Int} {zs : List Str} (he : e ≤ 40) : ∀ {n : Nat} {x : PyData}, Eb e L zs n x → ∀ {m : Nat}, dpt n x ≤ m → Eb e L zs m x := by
  intro n x h
  have ub : ∀ {n : Nat} {l : List PyData} {y : PyData}, y ∈ l → dpt n y ≤ mx (l.map (dpt n)) := by
    intro n l
    induction l with
    | nil => exact fun h => (nomatch h)
    | cons z l ih =>
      intro y hy
      show _ ≤ max (dpt n z) (mx (l.map (dpt n)))
      rcases List.mem_cons.mp hy with rfl | hy
      · omega
      · have := ih hy
        omega
  induction h with
  | int n i h1 h2 => intro m hm; rw [dpt] at hm; obtain ⟨k, rfl⟩ : ∃ k, m = k + 1 := ⟨m - 1, by omega⟩; exact .int k i h1 h2
  | let_ n i h0 h1 h2 => intro m hm; rw [dpt] at hm; obtain ⟨k, rfl⟩ : ∃ k, m = k + 1 := ⟨m - 1, by omega⟩; exact .let_ k i h0 h1 h2
  | key n => intro m hm; rw [dpt] at hm; obtain ⟨k, rfl⟩ : ∃ k, m = k + 1 := ⟨m - 1, by omega⟩; exact .key k
  | cell n t v x h1 h2 _ ih =>
    intro m hm
    rw [dpt, kids_cell] at hm
    obtain ⟨k, rfl⟩ : ∃ k, m = k + 1 := ⟨m - 1, by omega⟩
    have a := ub (n := n) (l := [x]) (y := x) (by simp)
    exact .cell k t v x h1 h2 (ih (by omega))
  | op n o x y h1 _ _ ih1 ih2 =>
    intro m hm
    rw [dpt, kids_op h1] at hm
    obtain ⟨k, rfl⟩ : ∃ k, m = k + 1 := ⟨m - 1, by omega⟩
    have a := ub (n := n) (l := [x, y]) (y := x) (by simp)
    have b := ub (n := n) (l := [x, y]) (y := y) (by simp)
    exact .op k o x y h1 (ih1 (by omega)) (ih2 (by omega))
  | iff n x y z _ _ _ ih1 ih2 ih3 =>
    intro m hm
    rw [dpt, kids_if] at hm
    obtain ⟨k, rfl⟩ : ∃ k, m = k + 1 := ⟨m - 1, by omega⟩
    have a := ub (n := n) (l := [x, y, z]) (y := x) (by simp)
    have b := ub (n := n) (l := [x, y, z]) (y := y) (by simp)
    have c := ub (n := n) (l := [x, y, z]) (y := z) (by simp)
    exact .iff k x y z (ih1 (by omega)) (ih2 (by omega)) (ih3 (by omega))
  | agg n o t xs ys h1 h2 h3 _ _ ih1 ih2 =>
    intro m hm
    rw [dpt, kids_agg h1] at hm
    obtain ⟨k, rfl⟩ : ∃ k, m = k + 1 := ⟨m - 1, by omega⟩
    refine .agg k o t xs ys h1 h2 h3 (fun x hx => ih1 x hx ?_) (fun y hy => ih2 y hy ?_)
    · have a := ub (n := n) (l := xs ++ ys) (y := x) (List.mem_append_left _ hx)
      omega
    · have a := ub (n := n) (l := xs ++ ys) (y := y) (List.mem_append_right _ hy)
      omega
end L41

/-! enumerate(a tuple) -/
namespace UI
open PySem PySem.Spec PyProof.Rows L2
theorem meets_new1 {v : Value} {o : Obj} {H : Heap → Prop} (B : Begins v o H) :
    Meets (Builtin.«enumerate.__new__» ⟨[.type "enumerate", v], []⟩) (fun _ R s => H s.heap ∧
      R (.ok (.ret (.ref (s.heap.push o).objs.size))) { s with heap := (s.heap.push o).push { cls := .type "enumerate", data := .fields #[.none, .bool false, .ref s.heap.objs.size, rawInt 0, .none, .none] } }) :=
  .of_wp fun prog w A R s h => by
    obtain ⟨hp, g, d, tk, os⟩ := s; obtain ⟨h1, h⟩ := h
    have hsub := sub_enumerate
    have q1 : ∀ {A' : Around} {E : Value → Shared → Prop} {Q : Value → Shared → Prop}, Q (.ref hp.objs.size) ⟨hp.push o, g, d, tk, os⟩ → wpAny (model prog w) A' (pyIter v) Q E ⟨hp, g, d, tk, os⟩ :=
      fun q => B.iter prog w _ _ ⟨hp, g, d, tk, os⟩ _ h1 q
    wp_walk using q1
    refine wpAny_stack_any fun st => wpAny_pure ?_
    split
    · rename_i c _ _ _ _ _
      cases (c == Value.type "enumerate")
      · wp_walk using q1
        exact ⟨_, rfl, h⟩
      · wp_walk using q1
        exact ⟨_, rfl, h⟩
    · wp_walk using q1
      exact ⟨_, rfl, h⟩
section
variable {prog : Program} {w : World} {A : Around} {E : Value → Shared → Prop} {s : Shared}
theorem enum_1 {v : Value} {o : Obj} {H : Heap → Prop} {Q : Value → Shared → Prop} (B : Begins v o H) (h1 : H s.heap)
    (h : ∀ h', IsEnum h' (s.heap.objs.size + 1) s.heap.objs.size 0 .none → h'.get? s.heap.objs.size = some o → h'.objs.size = s.heap.objs.size + 2 →
      (∀ b o, s.heap.get? b = some o → h'.get? b = some o) → Q (.ref (s.heap.objs.size + 1)) { s with heap := h' }) :
    wpAny (model prog w) A (call (.type "enumerate") [v]) Q E s := by
  refine callType_new F.called_enumerate (by decide) (F.typeCall_enumerate_1 _) (F.newCall_enumerate_1 _) (fun obj => F.args_object_init_2 obj _) F.entry_enumerate_new
    (meets_new1 B) ⟨h1, ?_⟩
  have hz : (s.heap.push o).objs.size = s.heap.objs.size + 1 := Heap.size_push ..
  show _ ∧ _
  rw [hz]
  have he : IsEnum ((s.heap.push o).push { cls := .type "enumerate", data := .fields #[.none, .bool false, .ref s.heap.objs.size, rawInt 0, .none, .none] }) (s.heap.objs.size + 1) s.heap.objs.size 0 .none := by
    have := Heap.get?_push_size (s.heap.push o) (o := { cls := .type "enumerate", data := .fields #[.none, .bool false, .ref s.heap.objs.size, rawInt 0, .none, .none] }) rfl
    rw [hz] at this; exact this
  refine ⟨⟨_, he, rfl⟩, h _ he (Heap.get?_push_of_some _ (Heap.get?_push_size _ B.free)) (by rw [Heap.size_push, hz]) fun b o x => Heap.get?_push_of_some _ (Heap.get?_push_of_some _ x)⟩
end
section
variable {prog : Program} {w : World} {A : Around} {E : Value → Shared → Prop} {s : Shared}
theorem enumT_end {e it l : Addr} {i : Nat} {items : Array Value} {old : Value} {Q : Option Value → Shared → Prop} (hh : A.in1.handled = none)
    (he : IsEnum s.heap e it i old) (hit : s.heap.IsTupleIter it l i) (hl : s.heap.IsTuple l items) (hx : items[i]? = none)
    (hQ : ∀ h', Heap.ExtBut it s.heap h' → Q none { s with heap := h' }) : wpAny (model prog w) A (pyNext (.ref e)) Q E s := by
  have hT : s.TypeIs (.ref e) "enumerate" := ⟨_, he, rfl⟩
  unfold pyNext
  refine wpAny_bind (wpAny_attempt (wpAny_callSpecial?_slot (name := Str.ofString "__next__") hT F.slot_enumerate_next
    (wpAny_call_entry F.slot_enumerate_next hT F.entry_enumerate_next ?_ (F.args_enumerate_next_1 _))))
  show wpAny _ _ (field (.ref e) 2 >>= _) _ _ _
  refine wpAny_bind (wpAny_field he rfl (x := .ref it) rfl ?_)
  refine wpAny_bind (wpAny_nextOf_tuple_end hh hit hl hx fun h' x he' hx' => ?_)
  obtain ⟨o, ho, hc⟩ := hx'
  refine wpAny_bind (wpAny_isInstance (T := "StopIteration") (b := true) ⟨o, ho, hc⟩ isSubtype_stop ?_)
  exact wpAny_pure (hQ _ he')
end
/-- the tuple at a, each item in a new pair -/
def Iet (K : PySem.W.Frag) (a : Addr) : It :=
  ⟨fun i H => ∃ (xs : List V) (x : V), SqT K H a xs ∧ xs[i]? = some x, fun i H v H' => ∃ T x, v = .ref T ∧ H T = none ∧ H' = upd H T (.tup [.int (i : Nat), x]) ∧ ∀ xs, SqT K H a xs → xs[i]? = some x, fun i H => ∃ xs : List V, SqT K H a xs ∧ xs.length ≤ i⟩
theorem turn_enumT {P : Program} {w : World} {K : PySem.W.Frag} {elts : List Expr} {kk : Nat} {tpos : Pos} (a e it : Addr) :
    Turn P w K (.Tuple elts kk tpos) (Iet K a) [e, it] e (fun i h => (∃ old, IsEnum h e it ((i : Nat) : Int) old) ∧ h.IsTupleIter it a i ∧ e ≠ it) where
  mem := by simp
  obj := fun i h st b hb => by
    obtain ⟨⟨old, he⟩, ⟨o, ho, hc, hd⟩, _⟩ := st
    have e' : b = e ∨ b = it := by simpa using hb
    rcases e' with z | z
    · rw [z]; exact ⟨_, he, fun v q => nomatch q⟩
    · rw [z]; exact ⟨o, ho, fun v q => by rw [hd] at q; cases q⟩
  keep := fun i h h' st k => let ⟨⟨old, he⟩, hi, hne⟩ := st; ⟨⟨old, k e (by simp) _ he⟩, hi.at fun o q => k it (by simp) o q, hne⟩
  item := by
    intro X hP hw hK hc i pins s σ H E I hf st hg
    subst hP hw hK
    obtain ⟨⟨old, he⟩, hit, hne⟩ := st
    obtain ⟨xs, x, hq, hx⟩ := hg
    obtain ⟨its, rv, p, hz⟩ := I.tuple hq
    obtain ⟨u, hu, ru⟩ := rv.get hx
    have hel : e < s.heap.objs.size := Heap.lt_size he
    have hil : it < s.heap.objs.size := by obtain ⟨_, q, _⟩ := hit; exact Heap.lt_size q
    have pt : s.heap.IsTuple a its.toArray := p
    have hai : a ≠ it := fun z => by
      obtain ⟨o, ho, hcl, _⟩ := id pt
      obtain ⟨o', ho', hcl', _⟩ := id hit
      rw [z, ho'] at ho
      cases ho
      rw [hcl'] at hcl
      injection hcl with h
      exact absurd h (by decide)
    have hea : e ≠ a := fun z => by
      obtain ⟨o, ho, hcl, _⟩ := id pt
      rw [← z, show s.heap.get? e = some _ from he] at ho
      cases ho
      injection hcl with h
      exact absurd h (by decide)
    have hlt : i < its.toArray.size := by
      have := (List.getElem?_eq_some_iff.mp hu).1
      simpa using this
    refine wpAny_pyNext_enum_itemD (Draws.tuple (A := X.A.in1) (I.ok.hd hc) it a hai its.toArray) he ⟨hit, pt⟩ hlt hne (by simp [hne, hea]) fun x' h' tk hx' ho ⟨hit', _⟩ hT hsz hk => ?_
    obtain rfl : x' = u := by
      have : its[i]? = some x' := by simpa using hx'
      rw [hu] at this
      exact (Option.some.inj this).symm
    refine ⟨_, rfl, wpAny_letOwnedTupleGo_enum (s := { s with heap := h', toks := tk + 1 }) ho fun h'' he' sb => ?_⟩
    have hT2 : h''.get? s.heap.objs.size = some { cls := .type "tuple", data := .seq #[.int i tk, x'] } := (sb.2 _ (Nat.ne_of_gt hel)).trans hT
    have new : ObjOk X.prog X.w (upd H s.heap.objs.size (.tup [.int (i : Nat), x])) h'' s.heap.objs.size (.tup [.int (i : Nat), x]) :=
      ⟨by show 2 ≤ sizeLine; decide, [.int i tk, x'], .cons ⟨_, rfl⟩ (.cons ru .nil), ⟨_, hT2, rfl, _, rfl⟩⟩
    have I1 : Inv X pins σ (upd H s.heap.objs.size (.tup [.int (i : Nat), x])) { s with heap := h'', toks := tk + 1 } :=
      I.turnedNew (ch := [e, it]) (fun b ob hb q => (sb.2 b (fun z => hb (by simp [z]))).trans (hk b ob (fun z => hb (by simp [z])) (fun z => hb (by simp [z])) q)) hf (Nat.le_refl _) new
    refine ⟨.ref s.heap.objs.size, _, I1, rfl, ⟨_, x, rfl, I.hok.fresh (Nat.le_refl _), rfl, fun ys hy => by rw [I.tuple_inj hy hq]; exact hx⟩, ⟨⟨x', ?_⟩, hit'.at fun o q => (sb.2 it (Ne.symm hne)).trans q, hne⟩, fun b hb => ?_⟩
    · have e1 : ((i + 1 : Nat) : Int) = (i : Int) + 1 := by omega
      rw [e1]; exact he'
    · have hb' : b < s.heap.objs.size := by
        have e' : b = e ∨ b = it := by simpa using hb
        rcases e' with z | z
        · rw [z]; exact hel
        · rw [z]; exact hil
      rw [upd_ne (Nat.ne_of_lt hb')]
      exact (hf b hb).1
  done := by
    intro X hP hw hK hc i pins s σ H E I hf st hg
    subst hP hw hK
    obtain ⟨⟨old, he⟩, hit, hne⟩ := st
    obtain ⟨xs, hq, hx⟩ := hg
    obtain ⟨its, rv, p, hz⟩ := I.tuple hq
    obtain ⟨f0, f1, f2, f3, f4, f5⟩ := hf it (by simp)
    have hl := rv.length
    have pt : s.heap.IsTuple a its.toArray := p
    exact enumT_end (I.ok.hd hc) he hit pt (by simp; omega) fun h' eb => ⟨rfl, I.turned (t' := s.toks) (fun b o hb q => eb b o hb q) f0 f1 f3 f4 f5⟩
  self := fun A i s Q E st h => let ⟨⟨_, he⟩, _⟩ := st; wpAny_pyIter_enum he h
def iEnumT (K : PySem.W.Frag) (ta : TA) : TI := fun σ H R => ta σ H fun vs H1 => ∃ a xs, vs = [.ref a] ∧ SqT K H1 a xs ∧ R (Iet K a) H1
theorem pi_enumT {X : Cx} {e : Expr} {ta : TA} {p pos tpos : Pos} {elts : List Expr} {kk : Nat} (hg : Gl X "enumerate") (hm : X.mg "enumerate" = none) (ha : PA X [e] ta) (hs : starEach [e] X.env = [(false, eval e X.env)] := by rfl) :
    PI X (.Tuple elts kk tpos) (.Call (.Name "enumerate" p) [e] [] pos) (iEnumT X.K ta) := by
  refine ⟨fun pins s σ H R I h => ?_⟩
  refine Call_ (ld_blt I hg hm boot_enumerate (PyProof.Rows.callWith_type1 (thn (ha.run pos pins s σ H _ I h) fun us s1 ⟨vs, H1, I1, r1, q1⟩ => ?_) hs rfl))
  obtain ⟨a, xs, ex, hq, q⟩ := q1
  subst ex
  cases r1 with
  | cons r rr =>
    cases rr
    cases r
    obtain ⟨its, rv, p', hz⟩ := I1.tuple hq
    refine enum_1 (begins_tuple a its.toArray) p' fun h' he hit hsz hk => wpAny_pyIter_enum he ?_
    have I2 : Inv X pins σ H1 { s1 with heap := h' } := I1.kept (t' := s1.toks) hk
    refine ⟨s1.heap.objs.size + 1, [s1.heap.objs.size + 1, s1.heap.objs.size], _, _, H1, rfl, I2, turn_enumT a (s1.heap.objs.size + 1) s1.heap.objs.size, ⟨⟨.none, he⟩, ⟨_, hit, rfl, rfl⟩, Nat.succ_ne_self _⟩, fun b hb => ?_, q⟩
    have e' : b = s1.heap.objs.size + 1 ∨ b = s1.heap.objs.size := by simpa using hb
    have hle : s1.heap.objs.size ≤ b := by
      rcases e' with z | z
      · rw [z]; exact Nat.le_add_right _ _
      · rw [z]; exact Nat.le_refl _
    exact I1.fpOk hle (I1.hok.fresh hle)
theorem walk_enumT {K : PySem.W.Frag} {a : Addr} {xs : List V} : Walk (Iet K a) xs.length (fun H => SqT K H a xs) (YPair (fun i => some (.int (i : Nat))) (fun i => xs[i]?)) := by
  refine ⟨fun i _ hi q => ⟨xs, xs[i], q, by simp [hi]⟩, fun _ q => ⟨xs, q, Nat.le_refl _⟩, fun i H v H' _ q y => ?_⟩
  obtain ⟨T, x, h1, h2, h3, h4⟩ := y
  exact ⟨T, .int (i : Nat), x, h1, h2, h3, rfl, h4 xs q⟩
end UI

namespace L41
open PySem PySem.Spec PyProof.Rows L2 GR WX TX UA RZ UI
/-! ### a log is drawn -/
theorem chain_at {ts cs : List Str} {ds : List PyData} (h : Chain ts cs ds) : ∀ {j : Nat} {x : PyData}, ds[j]? = some x → StX ts cs (letsD (ds.take j)) x := by
  induction h with
  | nil => intro j x h; simp at h
  | snoc ds x _ hx ih =>
    intro j y hy
    by_cases c : j < ds.length
    · rw [List.getElem?_append_left c] at hy
      rw [List.take_append_of_le_length (by omega)]
      exact ih hy
    · have : j = ds.length := by
        have := (List.getElem?_eq_some_iff.mp hy).1
        rw [List.length_append] at this
        simp at this
        omega
      subst this
      rw [List.getElem?_append_right (by omega)] at hy
      simp at hy
      subst hy
      rw [List.take_append_of_le_length (by omega), List.take_length]
      exact hx
structure GI (ms : List Int) (es : List Ent) (ts cs : List Str) (base lim : Int) : Prop where
  ms' : ∃ pre, ms = pre ++ [base]
  mle : ∀ m, m ∈ ms → m ≤ base
  b0 : 0 ≤ base
  bl : base ≤ lim
  asc : (es.map (·.1)).Pairwise (· < ·)
  lt : ∀ e, e ∈ es → 0 ≤ e.1 ∧ e.1 < lim
  ent : ∀ i e, es[i]? = some e → EntOk ms es ts cs i e
theorem EntOk.more {ms : List Int} {es : List Ent} {ts cs : List Str} {i : Nat} {e : Ent} (h : EntOk ms es ts cs i e) (hi : i ≤ es.length) (more : List Ent) : EntOk ms (es ++ more) ts cs i e := by
  obtain ⟨sc, lo, i0, h1, h2, h3, h4, h5, h6⟩ := h
  have e1 : (es ++ more).take i = es.take i := List.take_append_of_le_length hi
  have e0 : (es ++ more).take i0 = es.take i0 := List.take_append_of_le_length (by omega)
  exact ⟨sc, lo, i0, h1, h2, h3, by rw [e0]; exact h4, by rw [e1]; exact h5, by rw [e1]; exact h6⟩
theorem GI.push {ms : List Int} {es0 kept : List Ent} {ts cs sc : List Str} {base lim : Int} {pos : Int} {x : PyData} (h : GI ms (es0 ++ kept) ts cs base lim) (hp : lim ≤ pos) (hx : StX ts cs sc x) (h0 : ∀ e, e ∈ es0 → e.1 < base) (hk : ∀ e, e ∈ kept → base ≤ e.1) (hz : ∀ z, z ∈ sc → ∃ e', e' ∈ kept ∧ letNm e'.2 = some z) : GI ms (es0 ++ kept ++ [(pos, x)]) ts cs base (pos + 1) := by
  have hb := h.bl
  refine ⟨h.ms', h.mle, h.b0, by omega, ?_, fun e he => ?_, fun i e hi => ?_⟩
  · rw [List.map_append, List.pairwise_append]
    refine ⟨h.asc, List.pairwise_singleton _ _, fun a ha b hb' => ?_⟩
    obtain ⟨e', h1, rfl⟩ := List.mem_map.mp ha
    simp at hb'
    have := (h.lt e' h1).2
    omega
  · rcases List.mem_append.mp he with he | he
    · have := h.lt e he
      omega
    · rw [List.mem_singleton.mp he]
      have := h.b0
      show 0 ≤ pos ∧ pos < pos + 1
      omega
  · by_cases c : i < (es0 ++ kept).length
    · rw [List.getElem?_append_left c] at hi
      exact (h.ent i e hi).more (by omega) _
    · have hi' := (List.getElem?_eq_some_iff.mp hi).1
      have : i = (es0 ++ kept).length := by
        rw [List.length_append (as := es0 ++ kept)] at hi'
        simp at hi'
        rw [List.length_append]
        rw [List.length_append] at c
        omega
      subst this
      rw [List.getElem?_append_right (by omega)] at hi
      simp at hi
      subst hi
      have e1 : (es0 ++ kept ++ [(pos, x)]).take (es0 ++ kept).length = es0 ++ kept := by rw [List.take_append_of_le_length (Nat.le_refl _), List.take_length]
      have e0 : (es0 ++ kept ++ [(pos, x)]).take es0.length = es0 := by
        rw [List.append_assoc, List.take_append_of_le_length (Nat.le_refl _), List.take_length]
      refine ⟨sc, base, es0.length, hx, ⟨?_, by show base ≤ pos; omega, fun m hm _ => h.mle m hm⟩, by rw [List.length_append]; omega, ?_, ?_, ?_⟩
      · obtain ⟨pre, e⟩ := h.ms'
        rw [e]
        simp
      · rw [e0]
        exact h0
      · rw [e1, List.drop_left]
        intro e' he'
        refine ⟨hk e' he', ?_⟩
        have := (h.lt e' (List.mem_append_right _ he')).2
        show e'.1 < pos
        omega
      · rw [e1, List.drop_left]
        exact hz
theorem GI.mark {ms : List Int} {es : List Ent} {ts cs : List Str} {base lim b' : Int} (h : GI ms es ts cs base lim) (hb : lim ≤ b') : GI (ms ++ [b']) es ts cs b' b' := by
  have h1 := h.bl
  have h2 := h.b0
  refine ⟨⟨ms, rfl⟩, fun m hm => ?_, by omega, by omega, h.asc, fun e he => ?_, fun i e hi => ?_⟩
  · rcases List.mem_append.mp hm with hm | hm
    · have := h.mle m hm
      omega
    · rw [List.mem_singleton.mp hm]
      omega
  · have := h.lt e he
    omega
  · obtain ⟨sc, lo, i0, g1, ⟨g2, g3, g4⟩, g5⟩ := h.ent i e hi
    refine ⟨sc, lo, i0, g1, ⟨List.mem_append_left _ g2, g3, fun m hm hle => ?_⟩, g5⟩
    rcases List.mem_append.mp hm with hm | hm
    · exact g4 m hm hle
    · rw [List.mem_singleton.mp hm] at hle
      have := (h.lt e (List.mem_of_getElem? hi)).2
      omega
theorem GI.wider {ms : List Int} {es : List Ent} {ts cs : List Str} {base lim l' : Int} (h : GI ms es ts cs base lim) (hl : lim ≤ l') : GI ms es ts cs base l' := ⟨h.ms', h.mle, h.b0, by have := h.bl; omega, h.asc, fun e he => by have := h.lt e he; omega, h.ent⟩
theorem StX.wo {ts cs sc : List Str} {x : PyData} (h : StX ts cs sc x) : Wo1 x := by
  cases h with
  | let_ z x _ _ _ => exact ⟨"let", _, rfl, fun _ => ⟨z, x, rfl⟩⟩
  | need x _ => exact ⟨"need", _, rfl, fun h => absurd h (by decide)⟩
  | tell x _ => exact ⟨"tell", _, rfl, fun h => absurd h (by decide)⟩
  | each t z x y _ _ _ _ => exact ⟨"each", _, rfl, fun h => absurd h (by decide)⟩
  | put t z x y _ _ _ _ => exact ⟨"put", _, rfl, fun h => absurd h (by decide)⟩
theorem svs_at' {K : PySem.W.Frag} {H : Hp} : ∀ {vs : List V} {ds : List PyData}, SVs K H vs ds → ∀ {i : Nat} {v : V}, vs[i]? = some v → ∃ d, ds[i]? = some d ∧ SV K H v d
  | _, _, .nil, i, v, h => by simp at h
  | _, _, .cons (b := d) h t, 0, v, h' => by
    cases h'
    exact ⟨d, rfl, h⟩
  | _, _, .cons h t, i + 1, v, h' => by
    obtain ⟨d, h1, h2⟩ := svs_at' t (by simpa using h')
    exact ⟨d, by simpa using h1, h2⟩
section
variable {P : Program} {w : World} {K : PySem.W.Frag} {mg : Str → Option Value} {base : Heap}
abbrev s_law_made : Stmt := topS 52
abbrev N_lm : List Str := ["_law_deck_here", "_law_world_here", "_law_many", "_law_most", "_law_marks", "_law_some", "_law_thin", "_law_k", "_law_rows_here", "_law_j", "_law_row"]
abbrev ps_lm : List Str := ["_law_deck_here", "_law_world_here", "_law_many", "_law_most"]
theorem sc_law_made : FnScope N_lm ps_lm (defScope s_law_made) := ⟨rfl, rfl, rfl, by decide +kernel, rfl, by decide +kernel, by decide +kernel⟩
def sp_lm (K : PySem.W.Frag) : Sp := fun vs H Q _ => ∃ (d c u : Addr) (N : Int) (many : Nat) (ts cs ns : List Str), vs = [.ref d, .ref u, .int (many : Int), .int 5] ∧ many ≤ 3 ∧ Deck H d c N ∧ N < 2 ^ 51 ∧ AtW H d c u ts cs ns ∧
  ∀ H' p ms es pre M, Keep d c H H' → Deck H' d c (N + 700000) → LgD K H' p ms es → GoodL ms es ts cs → ms = pre ++ [M] → 0 ≤ M → M ≤ 21 → (∀ e, e ∈ es → Fine 8 12000 e.2) → (∀ m, m ∈ ms → 0 ≤ m ∧ m ≤ M) → Q (.ref p) H'
theorem ok_made {f f_draw f_tr : Addr} {fd fd_draw d_tr : FuncData} {k : Nat} (F : Fun K "_law_made" "_law_made" s_law_made f fd) (G_draw : FnOk P w K mg base CX0 k f_draw fd_draw ["_law_deck_here", "_law_most"] sp_draw) (g_draw : mg "_law_draw" = some (.ref f_draw)) (K_draw : PySem.W.keepIn K (.ref f_draw) = true) (b_draw : Binds K fd_draw ["_law_deck_here", "_law_most"] [])
    (G : FnOk P w K mg base CX0 k f_tr d_tr ps_tr (sp_tran K)) (g : mg "_law_transaction" = some (.ref f_tr)) (Kf : PySem.W.keepIn K (.ref f_tr) = true) (b : Binds K d_tr ps_tr []) (mrange : mg "range" = none) (mtuple : mg "tuple" = none) (menum : mg "enumerate" = none) (mlen : mg "len" = none) : FnOk P w K mg base CX0 (k + 1) f fd ps_lm (sp_lm K) := by
  have nd := sc_law_made.nd
  refine F.ok sc_law_made (fun vs H Q E h => ?_) (fun cdv A outer s H vs Q E hr h => ?_)
  · obtain ⟨d, c, u, N, many, ts, cs, ns, rfl, _⟩ := h
    rfl
  obtain ⟨d, c, u, N, many, ts, cs, ns, rfl, hmany, D, hN, W, q⟩ := h
  refine ⟨_, (pss_cons (ps_set (i := 4) nd rfl (.inl rfl) (pe_lst (pa_cons pe_int pa_nil)))
      (pss_cons (ps_set (i := 5) nd rfl (.inl rfl) (pe_lst pa_nil))
      (pss_cons (ps_set (i := 6) nd rfl (.inl rfl) (pe_cmpR op_eq (pe_call G_draw hr (by rfl) g_draw K_draw b_draw .nil pass0 (pa_cons (pv 0) (pa_cons pe_int pa_nil))) pe_int (nomark _)))
      (pss_cons (ps_for PassesOwn.never rfl (pi_range1 rfl mrange (pa_cons (pv 2) pa_nil)) (pg_name (i := 7) nd rfl (Or.inl rfl))
      (pss_cons (ps_set (i := 8) nd rfl (.inl rfl) (pe_call G hr (by rfl) g Kf b .nil pass0 (pa_cons (pv 0) (pa_cons (pv 1) (pa_cons (pv 3) (pa_cons pe_int pa_nil))))))
        (pss_cons (ps_for PassesOwn.never rfl (pi_enumT (by rfl) menum (pa_cons (pv 8) pa_nil)) (pg_tup rfl (pgs_cons (pg_name (i := 9) nd rfl (Or.inl rfl)) (pgs_cons (pg_name (i := 10) nd rfl (Or.inl rfl)) pgs_nil)))
        (pss_one (ps_if (PW.pt (pw_or (pt_cmpR op_eq (pe_ix ix_tup (pv 10) pe_int (fun _ _ => rfl)) pe_str (nomark _)) (pw_or (pt_not (pt_val (pv 6))) (pw_or1 (pt_cmpR op_gt (pe_call G_draw hr (by rfl) g_draw K_draw b_draw .nil pass0 (pa_cons (pv 0) (pa_cons pe_int pa_nil))) pe_int (nomark _))))))
          (pss_one (ps_expr (pe_bm PySem.F.plainAttrs_list PySem.F.slot_list_append PySem.F.type_list_append mt_append (pv 5) (pa_cons (pe_tup (pa_cons (pe_op op_add (pe_ix ix_list (pv 4) (pe_un un_neg pe_int) (fun _ _ => rfl)) (pv 9)) (pa_cons (pv 10) pa_nil))) pa_nil))))
          pss_nil)))
        (pss_one (ps_expr (pe_bm PySem.F.plainAttrs_list PySem.F.slot_list_append PySem.F.type_list_append mt_append (pv 4) (pa_cons (pe_op op_add (pe_ix ix_list (pv 4) (pe_un un_neg pe_int) (fun _ _ => rfl)) (pe_callB call_len_seq (by rfl) mlen PySem.boot_len (pa_cons (pv 8) pa_nil))) pa_nil)))))))
      (pss_one (ps_ret (pe_tup (pa_cons (pe_callTy call_tuple_of (by rfl) mtuple boot_tuple (pa_cons (pv 4) pa_nil)) (pa_cons (pe_callTy call_tuple_of (by rfl) mtuple boot_tuple (pa_cons (pv 5) pa_nil)) pa_nil))))))))), ?_⟩
  refine ⟨h1000 (show 1 ≤ 1000 by decide), fun ml nml => ⟨Nat.zero_le _, fun so nso => ?_⟩⟩
  have s1 := same_upd (o := .lst [.int 0]) nml
  have s2 := same_upd (o := .lst []) nso
  have hmd := D.new nml
  have hsd := (D.same s1).new nso
  have hm1 := s2 _ _ (show upd H ml (.lst [.int 0]) ml = _ from upd_same)
  have hs1 : upd (upd H ml (.lst [.int 0])) so (.lst []) so = some (.lst []) := upd_same
  have nsH : H so = none := s1.free nso
  have hms : ml ≠ so := ne_of_none (show upd H ml (.lst [.int 0]) ml = some (.lst [.int 0]) from upd_same) nso
  have s12 := s1.trans s2
  revert hm1 hs1 s12
  clear s1 s2
  generalize upd (upd H ml (.lst [.int 0])) so (.lst []) = H1
  intro hm1 hs1 s12
  have D1 := D.same s12
  refine ⟨.ref d, rfl, d, c, N, 3, rfl, D1, by omega, by decide, by decide, fun H2 r k2 D2 r0 r1 => ⟨rfl, ?_⟩⟩
  generalize decide (V.int r = V.int 0) = tb
  refine ⟨.int (many : Int), rfl, (many : Int), rfl, by omega, by omega, ?_⟩
  rw [show ((many : Int)).toNat = many by omega]
  refine for_range (n := many) (fun i σ H' => ∃ (y7 y8 y9 y10 : Option V) (ms : List Int) (es : List Ent) (bs : Int) (us : List V), σ = [some (.ref d), some (.ref u), some (.int (many : Int)), some (.int 5), some (.ref ml), some (.ref so), some (.bl tb), y7, y8, y9, y10] ∧ Keep d c H H' ∧ Deck H' d c (N + 1 + 200010 * (i : Int)) ∧ H' ml = some (.lst (ms.map V.int)) ∧ H' so = some (.lst us) ∧ DpAll K H' us (es.map ed) ∧ flatDs (es.map (·.2)) = true ∧ (∀ e, e ∈ es → Wo1 e.2 ∧ Fine 8 12000 e.2) ∧ GI ms es ts cs bs bs ∧ bs ≤ 7 * (i : Int) ∧ ms.length = i + 1 ∧ us.length ≤ 7 * i ∧ (∀ m, m ∈ ms → 0 ≤ m)) ?_ ?_ ?_
  · refine ⟨none, none, none, none, [0], [], 0, [], rfl, (Keep.of s12).trans k2, D2.mono (by omega), k2 _ _ hmd.1 hmd.2 hm1, k2 _ _ hsd.1 hsd.2 hs1, .nil, rfl, fun e h => (nomatch h), ⟨⟨[], rfl⟩, fun m hm => by rw [List.mem_singleton.mp hm]; omega, by omega, by omega, .nil, fun e h => (nomatch h), fun i e h => by simp at h⟩, by omega, rfl, Nat.zero_le _, fun m hm => by rw [List.mem_singleton.mp hm]; exact Int.le_refl _⟩
  · rintro i σ H3 hi ⟨y7, y8, y9, y10, ms, es, bs, us, rfl, k3, D3, hml, hso, hA, hf, hw, gi, hbs, hml', hus, hmz⟩
    refine ⟨.ref d, rfl, .ref u, rfl, .int 5, rfl, d, c, u, _, 2, 5, ts, cs, ns, rfl, by decide, by decide, D3, by omega, W.keep k3, fun H4 rp rows ds k4 D4 hrp hsv hlr hch => ?_⟩
    have hml4 := k4 _ _ hmd.1 hmd.2 hml
    have hso4 := k4 _ _ hsd.1 hsd.2 hso
    have hA4 := dp_keepAll (k4.t D3) _ _ (flat_eds hf) hA
    have lrd := svs_len hsv
    have hrs : rp ≠ so := fun z => by rw [z, hso4] at hrp; cases hrp
    have hrm : rp ≠ ml := fun z => by rw [z, hml4] at hrp; cases hrp
    have k04 := k3.trans k4
    obtain ⟨pre, hpre⟩ := gi.ms'
    have lastI : atI (ms.map V.int) (-1) = some (.int bs) := by
      rw [hpre, List.map_append]
      exact atI_last _ _
    refine ⟨.ref rp, rfl, rp, rows, rfl, .inl (.inl hrp), ?_⟩
    refine for_it (walk_enumT (xs := rows)) (fun j σ H' => ∃ (y7 y9 y10 : Option V) (kept : List Ent) (us' : List V), σ = [some (.ref d), some (.ref u), some (.int (many : Int)), some (.int 5), some (.ref ml), some (.ref so), some (.bl tb), y7, some (.ref rp), y9, y10] ∧ Keep d c H H' ∧ Deck H' d c (N + 1 + 200010 * (i : Int) + 200000 + (j : Int)) ∧ H' ml = some (.lst (ms.map V.int)) ∧ H' so = some (.lst us') ∧ DpAll K H' us' ((es ++ kept).map ed) ∧ flatDs ((es ++ kept).map (·.2)) = true ∧ (∀ e, e ∈ es ++ kept → Wo1 e.2 ∧ Fine 8 12000 e.2) ∧ GI ms (es ++ kept) ts cs bs (bs + (j : Int)) ∧ (∀ e, e ∈ kept → bs ≤ e.1) ∧ (∀ z, z ∈ letsD (ds.take j) → ∃ e', e' ∈ kept ∧ letNm e'.2 = some z) ∧ us'.length ≤ us.length + j ∧ H' rp = some (.tup rows) ∧ SVs K H' rows ds) ?_ ?_ ?_ ?_
    · refine ⟨_, y9, y10, [], us, rfl, k04, D4.mono (by omega), hml4, hso4, ?_, ?_, ?_, ?_, fun e h => (nomatch h), fun z hz => (by rw [List.take_zero] at hz; exact (nomatch hz)), by omega, hrp, hsv⟩
      · rw [List.append_nil]; exact hA4
      · rw [List.append_nil]; exact hf
      · rw [List.append_nil]; exact hw
      · rw [List.append_nil]; exact gi.wider (by omega)
    · rintro j σ H' _ ⟨_, _, _, _, _, rfl, _, _, _, _, _, _, _, _, _, _, _, h, _⟩
      exact .inl (.inl h)
    · rintro j xx σ H5 H5' hj ⟨y7, y9, y10, kept, us', rfl, k5, D5, hml5, hso5, hA5, hf', hw', gi', hkb, hzl, hus', hrp5, hs5⟩ ⟨T1, xi, v, rfl, hT1, rfl, hxi, hyi⟩
      obtain rfl : V.int (j : Int) = xi := Option.some.inj hxi
      have sT := same_upd (o := .tup [.int (j : Int), v]) hT1
      have kT := KeepT.of sT
      obtain ⟨x, hdj, hv⟩ := svs_at' hs5 hyi
      have hX := chain_at hch hdj
      have lgi := gi'.bl
      refine ⟨_, _, rfl, .inl (.inl upd_same), rfl, _, _, rfl, _, _, rfl, rfl, ?_⟩
      have D6 := D5.same sT
      have k6 := k5.trans (Keep.of sT)
      have hml6 := sT _ _ hml5
      have hso6 := sT _ _ hso5
      have hA6 := dp_keepAll kT _ _ (flat_eds hf') hA5
      have hrp6 := sT _ _ hrp5
      have hs6 := svs_keep kT hs5
      have hv6 := hv.keep kT
      revert D6 k6 hml6 hso6 hA6 hrp6 hs6 hv6
      generalize upd H5 T1 (.tup [.int (j : Int), v]) = H6
      intro D6 k6 hml6 hso6 hA6 hrp6 hs6 hv6
      obtain ⟨vp, w', v1, vs1, rfl, hvp, hsf, hdv, hfin⟩ := id hv6
      have fx := hfin.flat
      refine ⟨.ref vp, rfl, vp, _, 0, .str w', rfl, rfl, .inl (.inl hvp), at0, rfl, _, rfl, ?_⟩
      generalize hv0 : V.ref vp = v at hyi hv hdv hv6
      by_cases hwl : w' = "let"
      · rw [decide_eq_true (congrArg V.str hwl)]
        have body : ∀ H3, H3 = H6 → True := fun _ _ => trivial
        refine iteT ?_
        obtain ⟨H3, hH3⟩ : ∃ H3, H3 = H6 := ⟨_, rfl⟩
        rw [← hH3] at D6 k6 hml6 hso6 hA6 hrp6 hs6 hdv ⊢
        have D3 := D6; have k3 := k6; have hml3 := hml6; have hso3 := hso6; have hA3 := hA6; have hrp3 := hrp6; have hs3 := hs6; have dv3 := hdv
        · refine ⟨.ref so, rfl, .inl ⟨rfl, us', .inl (.inl hso3)⟩, .ref ml, rfl, 1, rfl, ml, _, -1, .int bs, rfl, rfl, .inl (.inl hml3), lastI, .int (j : Int), rfl, bs, (j : Int), rfl, rfl, v, rfl, le2, fun t nt => ?_⟩
          have st := same_upd (o := .tup [.int (bs + (j : Int)), v]) nt
          have hso4 := st _ _ hso3
          have kL : KeepT (upd H3 t (.tup [.int (bs + (j : Int)), v])) (upd (upd H3 t (.tup [.int (bs + (j : Int)), v])) so (.lst (us' ++ [.ref t]))) := KeepT.lst hso4
          have htd : Dp K (upd H3 t (.tup [.int (bs + (j : Int)), v])) (.ref t) (ed (bs + (j : Int), x)) := new_tup (.cons (.int _) (.cons dv3 .nil)) (by simp only [flatDs, flatD, fx, Bool.and_self]) nt
          refine ⟨so, us', .ref t, rfl, rfl, hso4, small1000 (by omega), y7, some (.int (j : Int)), some v, kept ++ [(bs + (j : Int), x)], us' ++ [.ref t], rfl, fun b o n1 n2 e => ?_, ((D3.same st).upd hsd.1 hsd.2).mono (by omega), ?_, upd_same, ?_, ?_, fun e he => ?_, ?_, fun e he => ?_, fun z hz => ?_, by rw [List.length_append, List.length_cons, List.length_nil]; omega, ?_, svs_keep ((KeepT.of st).trans kL) hs3⟩
          · rw [upd_ne (ne_of_none e nsH)]
            exact st _ _ (k3 b o n1 n2 e)
          · rw [upd_ne hms]
            exact st _ _ hml3
          · rw [← List.append_assoc, List.map_append]
            exact dpAll_app (dp_keepAll ((KeepT.of st).trans kL) _ _ (flat_eds hf') hA3) (.cons (dp_keep kL _ _ (by unfold ed; simp only [flatD, flatDs, fx, Bool.and_self]) htd) .nil)
          · rw [← List.append_assoc, List.map_append]
            exact flat_append hf' (by simp only [List.map_cons, List.map_nil, flatDs, fx, Bool.and_self])
          · rw [← List.append_assoc] at he
            rcases List.mem_append.mp he with he | he
            · exact hw' e he
            · rw [List.mem_singleton.mp he]
              exact ⟨hX.wo, hfin⟩
          · rw [← List.append_assoc, show bs + ((j + 1 : Nat) : Int) = bs + (j : Int) + 1 by omega]
            exact gi'.push (by omega) hX (fun e he => (gi.lt e he).2) hkb hzl
          · rcases List.mem_append.mp he with he | he
            · exact hkb e he
            · rw [List.mem_singleton.mp he]
              show bs ≤ bs + (j : Int)
              omega
          · rw [take_next hdj, letsD_append] at hz
            rcases List.mem_append.mp hz with hz | hz
            · obtain ⟨e', h1, h2⟩ := hzl z hz
              exact ⟨e', List.mem_append_left _ h1, h2⟩
            · refine ⟨(bs + (j : Int), x), List.mem_append_right _ (List.mem_singleton.mpr rfl), ?_⟩
              show letNm x = some z
              have : letsD [x] = (letNm x).toList := by
                unfold letsD
                rw [List.filterMap_cons]
                cases letNm x <;> rfl
              rw [this] at hz
              cases hlx : letNm x with
              | none => rw [hlx] at hz; exact nomatch hz
              | some z' =>
                rw [hlx] at hz
                rw [List.mem_singleton.mp hz]
          · rw [upd_ne hrs]
            exact st _ _ hrp3
      · rw [decide_eq_false (fun z => hwl (V.str.inj z))]
        have hno : letNm x = none := by
          rcases hsf with ⟨h, _⟩ | ⟨_, h, _⟩ | ⟨_, h, _⟩
          · exact absurd h hwl
          · exact isLet_no h
          · exact isLet_no h
        refine iteF ⟨.bl tb, rfl, tb, rfl, ?_⟩
        cases tb with
        | false =>
          refine iteT ?_
          obtain ⟨H3, hH3⟩ : ∃ H3, H3 = H6 := ⟨_, rfl⟩
          rw [← hH3] at D6 k6 hml6 hso6 hA6 hrp6 hs6 hdv ⊢
          have D3 := D6; have k3 := k6; have hml3 := hml6; have hso3 := hso6; have hA3 := hA6; have hrp3 := hrp6; have hs3 := hs6; have dv3 := hdv
          refine ⟨.ref so, rfl, .inl ⟨rfl, us', .inl (.inl hso3)⟩, .ref ml, rfl, 1, rfl, ml, _, -1, .int bs, rfl, rfl, .inl (.inl hml3), lastI, .int (j : Int), rfl, bs, (j : Int), rfl, rfl, v, rfl, le2, fun t nt => ?_⟩
          have st := same_upd (o := .tup [.int (bs + (j : Int)), v]) nt
          have hso4 := st _ _ hso3
          have kL : KeepT (upd H3 t (.tup [.int (bs + (j : Int)), v])) (upd (upd H3 t (.tup [.int (bs + (j : Int)), v])) so (.lst (us' ++ [.ref t]))) := KeepT.lst hso4
          have htd : Dp K (upd H3 t (.tup [.int (bs + (j : Int)), v])) (.ref t) (ed (bs + (j : Int), x)) := new_tup (.cons (.int _) (.cons dv3 .nil)) (by simp only [flatDs, flatD, fx, Bool.and_self]) nt
          refine ⟨so, us', .ref t, rfl, rfl, hso4, small1000 (by omega), y7, some (.int (j : Int)), some v, kept ++ [(bs + (j : Int), x)], us' ++ [.ref t], rfl, fun b o n1 n2 e => ?_, ((D3.same st).upd hsd.1 hsd.2).mono (by omega), ?_, upd_same, ?_, ?_, fun e he => ?_, ?_, fun e he => ?_, fun z hz => ?_, by rw [List.length_append, List.length_cons, List.length_nil]; omega, ?_, svs_keep ((KeepT.of st).trans kL) hs3⟩
          · rw [upd_ne (ne_of_none e nsH)]
            exact st _ _ (k3 b o n1 n2 e)
          · rw [upd_ne hms]
            exact st _ _ hml3
          · rw [← List.append_assoc, List.map_append]
            exact dpAll_app (dp_keepAll ((KeepT.of st).trans kL) _ _ (flat_eds hf') hA3) (.cons (dp_keep kL _ _ (by unfold ed; simp only [flatD, flatDs, fx, Bool.and_self]) htd) .nil)
          · rw [← List.append_assoc, List.map_append]
            exact flat_append hf' (by simp only [List.map_cons, List.map_nil, flatDs, fx, Bool.and_self])
          · rw [← List.append_assoc] at he
            rcases List.mem_append.mp he with he | he
            · exact hw' e he
            · rw [List.mem_singleton.mp he]
              exact ⟨hX.wo, hfin⟩
          · rw [← List.append_assoc, show bs + ((j + 1 : Nat) : Int) = bs + (j : Int) + 1 by omega]
            exact gi'.push (by omega) hX (fun e he => (gi.lt e he).2) hkb hzl
          · rcases List.mem_append.mp he with he | he
            · exact hkb e he
            · rw [List.mem_singleton.mp he]
              show bs ≤ bs + (j : Int)
              omega
          · rw [take_next hdj, letsD_append] at hz
            rcases List.mem_append.mp hz with hz | hz
            · obtain ⟨e', h1, h2⟩ := hzl z hz
              exact ⟨e', List.mem_append_left _ h1, h2⟩
            · refine ⟨(bs + (j : Int), x), List.mem_append_right _ (List.mem_singleton.mpr rfl), ?_⟩
              show letNm x = some z
              have : letsD [x] = (letNm x).toList := by
                unfold letsD
                rw [List.filterMap_cons]
                cases letNm x <;> rfl
              rw [this] at hz
              cases hlx : letNm x with
              | none => rw [hlx] at hz; exact nomatch hz
              | some z' =>
                rw [hlx] at hz
                rw [List.mem_singleton.mp hz]
          · rw [upd_ne hrs]
            exact st _ _ hrp3
        | true =>
          refine iteF ⟨.ref d, rfl, d, c, _, 3, rfl, D6, by omega, by decide, by decide, fun H3 r3 kk3 D3 _ _ => ⟨_, _, rfl, rfl, _, rfl, ?_⟩⟩
          have k3 := k6.trans kk3
          have hml3 := kk3 _ _ hmd.1 hmd.2 hml6
          have hso3 := kk3 _ _ hsd.1 hsd.2 hso6
          have hA3 := dp_keepAll (kk3.t D6) _ _ (flat_eds hf') hA6
          have hs3 := svs_keep (kk3.t D6) hs6
          have dv3 := dp_keep (kk3.t D6) _ _ fx hdv
          have hrp3 : H3 rp = some (.tup rows) := (kk3.t D6).1 _ _ hrp6
          refine ite2 (fun _ => ?_) (fun _ => ?_)
          · refine ⟨.ref so, rfl, .inl ⟨rfl, us', .inl (.inl hso3)⟩, .ref ml, rfl, 1, rfl, ml, _, -1, .int bs, rfl, rfl, .inl (.inl hml3), lastI, .int (j : Int), rfl, bs, (j : Int), rfl, rfl, v, rfl, le2, fun t nt => ?_⟩
            have st := same_upd (o := .tup [.int (bs + (j : Int)), v]) nt
            have hso4 := st _ _ hso3
            have kL : KeepT (upd H3 t (.tup [.int (bs + (j : Int)), v])) (upd (upd H3 t (.tup [.int (bs + (j : Int)), v])) so (.lst (us' ++ [.ref t]))) := KeepT.lst hso4
            have htd : Dp K (upd H3 t (.tup [.int (bs + (j : Int)), v])) (.ref t) (ed (bs + (j : Int), x)) := new_tup (.cons (.int _) (.cons dv3 .nil)) (by simp only [flatDs, flatD, fx, Bool.and_self]) nt
            refine ⟨so, us', .ref t, rfl, rfl, hso4, small1000 (by omega), y7, some (.int (j : Int)), some v, kept ++ [(bs + (j : Int), x)], us' ++ [.ref t], rfl, fun b o n1 n2 e => ?_, ((D3.same st).upd hsd.1 hsd.2).mono (by omega), ?_, upd_same, ?_, ?_, fun e he => ?_, ?_, fun e he => ?_, fun z hz => ?_, by rw [List.length_append, List.length_cons, List.length_nil]; omega, ?_, svs_keep ((KeepT.of st).trans kL) hs3⟩
            · rw [upd_ne (ne_of_none e nsH)]
              exact st _ _ (k3 b o n1 n2 e)
            · rw [upd_ne hms]
              exact st _ _ hml3
            · rw [← List.append_assoc, List.map_append]
              exact dpAll_app (dp_keepAll ((KeepT.of st).trans kL) _ _ (flat_eds hf') hA3) (.cons (dp_keep kL _ _ (by unfold ed; simp only [flatD, flatDs, fx, Bool.and_self]) htd) .nil)
            · rw [← List.append_assoc, List.map_append]
              exact flat_append hf' (by simp only [List.map_cons, List.map_nil, flatDs, fx, Bool.and_self])
            · rw [← List.append_assoc] at he
              rcases List.mem_append.mp he with he | he
              · exact hw' e he
              · rw [List.mem_singleton.mp he]
                exact ⟨hX.wo, hfin⟩
            · rw [← List.append_assoc, show bs + ((j + 1 : Nat) : Int) = bs + (j : Int) + 1 by omega]
              exact gi'.push (by omega) hX (fun e he => (gi.lt e he).2) hkb hzl
            · rcases List.mem_append.mp he with he | he
              · exact hkb e he
              · rw [List.mem_singleton.mp he]
                show bs ≤ bs + (j : Int)
                omega
            · rw [take_next hdj, letsD_append] at hz
              rcases List.mem_append.mp hz with hz | hz
              · obtain ⟨e', h1, h2⟩ := hzl z hz
                exact ⟨e', List.mem_append_left _ h1, h2⟩
              · refine ⟨(bs + (j : Int), x), List.mem_append_right _ (List.mem_singleton.mpr rfl), ?_⟩
                show letNm x = some z
                have : letsD [x] = (letNm x).toList := by
                  unfold letsD
                  rw [List.filterMap_cons]
                  cases letNm x <;> rfl
                rw [this] at hz
                cases hlx : letNm x with
                | none => rw [hlx] at hz; exact nomatch hz
                | some z' =>
                  rw [hlx] at hz
                  rw [List.mem_singleton.mp hz]
            · rw [upd_ne hrs]
              exact st _ _ hrp3
          · refine ⟨_, _, _, kept, us', rfl, k3, D3.mono (by omega), hml3, hso3, hA3, hf', hw', gi'.wider (by omega), hkb, fun z hz => ?_, by omega, hrp3, hs3⟩
            rw [take_next hdj, letsD_append] at hz
            rcases List.mem_append.mp hz with hz | hz
            · exact hzl z hz
            · have : letsD [x] = [] := by
                unfold letsD
                rw [List.filterMap_cons, hno]
                rfl
              rw [this] at hz
              exact nomatch hz
    · rintro σ H5 ⟨y7, y9, y10, kept, us', rfl, k5, D5, hml5, hso5, hA5, hf', hw', gi', hkb, hzl, hus', hrp5, hs5⟩
      refine ⟨.ref ml, rfl, .inl ⟨rfl, _, .inl (.inl hml5)⟩, .ref ml, rfl, 1, rfl, ml, _, -1, .int bs, rfl, rfl, .inl (.inl hml5), lastI, .ref rp, rfl, rp, rows, rfl, .inr (.inl (.inl hrp5)), bs, (rows.length : Int), rfl, rfl, ml, _, _, rfl, rfl, hml5, small1000 (by rw [List.length_map]; omega), ?_⟩
      have kL : KeepT H5 (upd H5 ml (.lst (ms.map V.int ++ [.int (bs + (rows.length : Int))]))) := KeepT.lst hml5
      have nmH : H ml = none := nml
      refine ⟨_, _, _, _, ms ++ [bs + (rows.length : Int)], es ++ kept, bs + (rows.length : Int), us', rfl, fun b o n1 n2 e => ?_, (D5.upd hmd.1 hmd.2).mono (by omega), ?_, ?_, dp_keepAll kL _ _ (flat_eds hf') hA5, hf', hw', gi'.mark (by omega), by omega, by rw [List.length_append, hml']; rfl, by omega, fun m hm => ?_⟩
      · rw [upd_ne (ne_of_none e nmH)]
        exact k5 b o n1 n2 e
      · rw [List.map_append]
        exact upd_same
      · rw [upd_ne hms.symm]
        exact hso5
      · rcases List.mem_append.mp hm with hm | hm
        · exact hmz m hm
        · have := gi.b0
          rw [List.mem_singleton.mp hm]
          omega
  · rintro σ H3 ⟨y7, y8, y9, y10, ms, es, bs, us, rfl, k3, D3, hml, hso, hA, hf, hw, gi, hbs, hml', hus, hmz⟩
    refine ⟨.ref ml, rfl, ml, _, rfl, .inl ⟨.inl (.inl hml), fun p1 n1 => ?_⟩⟩
    have t1 := same_upd (o := .tup (ms.map V.int)) n1
    refine ⟨.ref so, rfl, so, us, rfl, .inl ⟨.inl (.inl (t1 _ _ hso)), fun p2 n2 => ?_⟩⟩
    have t2 := same_upd (o := .tup us) n2
    refine ⟨le2, fun p np => ?_⟩
    have t3 := same_upd (o := .tup [.ref p1, .ref p2]) np
    have hp1 := t2 _ _ (show upd H3 p1 (.tup (ms.map V.int)) p1 = _ from upd_same)
    have dm : ∀ (H : Hp) (ms : List Int), DpAll K H (ms.map V.int) (ms.map PyData.int) := fun H ms => by
      induction ms with
      | nil => exact .nil
      | cons m ms ih => exact .cons (.int m) ih
    obtain ⟨pre, hpre⟩ := gi.ms'
    have lus := dpAll_len hA
    rw [List.length_map] at lus
    have hLd : Dp K (upd (upd (upd H3 p1 (.tup (ms.map V.int))) p2 (.tup us)) p (.tup [.ref p1, .ref p2])) (.ref p) (logD ms es) := new_tup (.cons (.tup (.inl (.inl hp1)) (dm _ ms)) (.cons (new_tup (dp_keepAll (KeepT.of t1) _ _ (flat_eds hf) hA) (flat_eds hf) n2) .nil)) (by simp only [flatDs, flatD, flat_ints ms, flat_eds hf, Bool.and_self]) np
    refine q _ p ms es pre bs (k3.trans (Keep.of (t1.trans (t2.trans t3)))) ((((D3.same t1).same t2).same t3).mono (by omega)) ⟨hLd, hf, fun e he => (hw e he).1⟩ ⟨gi.asc, by omega, by omega, gi.ent, fun e he => ?_⟩ hpre gi.b0 (by omega) (fun e he => (hw e he).2) (fun m hm => ⟨hmz m hm, gi.mle m hm⟩)
    have := gi.lt e he
    omega
end
end L41

namespace L41
open PySem PySem.Spec PyProof.Rows L2 GR WX TX
theorem depth_all {b : Nat} : ∀ {l : List PyData}, (∀ x, x ∈ l → x.depth ≤ b) → PyData.depthAll l ≤ b
  | [], _ => by simp only [PyData.depthAll]; exact Nat.zero_le _
  | x :: l, h => by
    have h1 := h x List.mem_cons_self
    have h2 := depth_all fun y hy => h y (List.mem_cons_of_mem _ hy)
    simp only [PyData.depthAll]
    omega
theorem depth_of {zs : List Str} : ∀ {n : Nat} {x : PyData}, Ex zs n x → x.depth ≤ 2 * n := by
  intro n x h
  induction h with
  | leaf n x h =>
    cases h <;> simp only [PyData.depth, PyData.depthAll] <;> omega
  | cell n t v x h1 h2 h3 ih =>
    simp only [PyData.depth, PyData.depthAll]
    omega
  | op n o x y h1 h2 h3 ih1 ih2 =>
    simp only [PyData.depth, PyData.depthAll]
    omega
  | iff n x y z h1 h2 h3 ih1 ih2 ih3 =>
    simp only [PyData.depth, PyData.depthAll]
    omega
  | agg n o t xs ys h1 h2 h3 h4 h5 ih1 ih2 =>
    have a := depth_all ih1
    have b := depth_all ih2
    simp only [PyData.depth, PyData.depthAll]
    omega
theorem Ex.names {zs ws : List Str} (s : ∀ z, z ∈ zs → z ∈ ws) : ∀ {n : Nat} {x : PyData}, Ex zs n x → Ex ws n x := by
  intro n x h
  induction h with
  | leaf n x h =>
    refine .leaf n x ?_
    cases h with
    | int i a b => exact .int i a b
    | let_ i a b => exact .let_ i a b
    | key => exact .key
    | var z hz => exact .var z (s z hz)
  | cell n t v x h1 h2 h3 ih => exact .cell n t v x (s t h1) (s v h2) ih
  | op n o x y h1 h2 h3 ih1 ih2 => exact .op n o x y h1 ih1 ih2
  | iff n x y z h1 h2 h3 ih1 ih2 ih3 => exact .iff n x y z ih1 ih2 ih3
  | agg n o t xs ys h1 h2 h3 h4 h5 ih1 ih2 => exact .agg n o t xs ys h1 (s t h2) h3 ih1 ih2
/-! ### how long a text is -/
theorem sh_tup (ds : List PyData) : sl (.tuple ds) ≤ sls ds + 3 := by
  have h1 := tupleText_len_le (PyData.shownAll ds)
  have h2 := sls_eq ds
  rw [PyData.shownAll_length] at h1
  unfold sl
  simp only [PyData.shown]
  omega
theorem sh_lst (ds : List PyData) : sl (.list ds) ≤ sls ds + 3 := by
  have h1 := listText_len_le (PyData.shownAll ds)
  have h2 := sls_eq ds
  rw [PyData.shownAll_length] at h1
  unfold sl
  simp only [PyData.shown]
  omega
theorem sl_word : ∀ w, w ∈ (["int", "let", "key", "var", "cell", "if", "+", "-", "*", "<", "=", "at", "count", "sum", "most", "first", "in", "a"] : List Str) → sl (.str w) ≤ 7 := by
  have : ∀ w, w ∈ (["int", "let", "key", "var", "cell", "if", "+", "-", "*", "<", "=", "at", "count", "sum", "most", "first", "in", "a"] : List Str) → (reprText w).length ≤ 7 := by decide +kernel
  intro w hw
  unfold sl
  rw [PyData.shown_str]
  exact this w hw
theorem op_words {w : Str} (h : w ∈ opws) : w ∈ (["int", "let", "key", "var", "cell", "if", "+", "-", "*", "<", "=", "at", "count", "sum", "most", "first", "in", "a"] : List Str) := by
  simp only [opws, List.mem_cons, List.not_mem_nil, or_false] at h
  rcases h with rfl | rfl | rfl | rfl | rfl | rfl <;> decide
theorem agg_words {w : Str} {k : Nat} (h : (w, k) ∈ aggs) : w ∈ (["int", "let", "key", "var", "cell", "if", "+", "-", "*", "<", "=", "at", "count", "sum", "most", "first", "in", "a"] : List Str) := by
  simp only [aggs, List.mem_cons, List.not_mem_nil, or_false, Prod.mk.injEq] at h
  rcases h with ⟨rfl, _⟩ | ⟨rfl, _⟩ | ⟨rfl, _⟩ | ⟨rfl, _⟩ <;> decide
theorem sum_mul {α : Type} (c : Nat) (f : α → Nat) : ∀ l : List α, (l.map fun x => c * f x).sum = c * (l.map f).sum
  | [] => by simp
  | x :: l => by
    rw [List.map_cons, List.map_cons, List.sum_cons, List.sum_cons, sum_mul c f l, Nat.mul_add]
/-- an expression is no longer than 182 signs a part -/
theorem len_ex {zs : List Str} (hz : ∀ z, z ∈ zs → Nm z) : ∀ {n : Nat} {x : PyData}, Ex zs n x → sl x + 2 ≤ 182 * (flatP n x).length := by
  intro n x h
  induction h with
  | leaf n x h =>
    have e : (flatP (n + 1) x).length = 1 := by
      simp only [flatP, kids_leaf h, List.flatMap_nil, List.length_singleton]
    rw [e, Nat.mul_one]
    cases h with
    | int i h1 h2 =>
      have := sh_tup [.str "int", .int i]
      have := sl_word "int" (by decide)
      have := sl_int h1 h2
      simp only [sls] at *
      omega
    | let_ i h1 h2 =>
      have := sh_tup [.str "let", .int i]
      have := sl_word "let" (by decide)
      have := sl_int (show -(10 ^ 18) ≤ i by omega) (show i ≤ 10 ^ 18 by omega)
      simp only [sls] at *
      omega
    | var z h1 =>
      have := sh_tup [.str "var", .str z]
      have := sl_word "var" (by decide)
      have := sl_name (hz z h1)
      simp only [sls] at *
      omega
    | key =>
      have := sh_tup [.str "key"]
      have := sl_word "key" (by decide)
      simp only [sls] at *
      omega
  | cell n t v x h1 h2 h3 ih =>
    have e : (flatP (n + 1) (.tuple [.str "cell", .str t, x, .str v])).length = 1 + (flatP n x).length := by
      simp only [flatP, kids_cell, List.flatMap_cons, List.flatMap_nil, List.append_nil, List.length_cons]
      omega
    have := sh_tup [.str "cell", .str t, x, .str v]
    have := sl_word "cell" (by decide)
    have := sl_name (hz t h1)
    have := sl_name (hz v h2)
    rw [e, Nat.mul_add]
    simp only [sls] at *
    omega
  | op n w x y h1 h2 h3 ih1 ih2 =>
    have e : (flatP (n + 1) (.tuple [.str w, x, y])).length = 1 + ((flatP n x).length + (flatP n y).length) := by
      simp only [flatP, kids_op h1, List.flatMap_cons, List.flatMap_nil, List.append_nil, List.length_cons, List.length_append]
      omega
    have hw := sl_word w (op_words h1)
    rw [e, Nat.mul_add, Nat.mul_add]
    have := sh_tup [.str w, x, y]
    simp only [sls] at *
    omega
  | iff n x y z h1 h2 h3 ih1 ih2 ih3 =>
    have e : (flatP (n + 1) (.tuple [.str "if", x, y, z])).length = 1 + ((flatP n x).length + ((flatP n y).length + (flatP n z).length)) := by
      simp only [flatP, kids_if, List.flatMap_cons, List.flatMap_nil, List.append_nil, List.length_cons, List.length_append]
      omega
    have hw := sl_word "if" (by decide)
    rw [e, Nat.mul_add, Nat.mul_add, Nat.mul_add]
    have := sh_tup [.str "if", x, y, z]
    simp only [sls] at *
    omega
  | agg n w t xs ys h1 h2 h3 h4 h5 ih1 ih2 =>
    have e : (flatP (n + 1) (.tuple (.str w :: .str t :: .tuple xs :: ys))).length = 1 + ((xs.map fun z => (flatP n z).length).sum + (ys.map fun z => (flatP n z).length).sum) := by
      simp only [flatP, kids_agg h1, List.length_cons, List.length_flatMap, List.map_append, List.sum_append]
      omega
    have hw := sl_word w (agg_words h1)
    have ht := sl_name (hz t h2)
    rw [e, Nat.mul_add, Nat.mul_add, ← sum_mul, ← sum_mul]
    have a1 := sls_le (b := fun z => 182 * (flatP n z).length) ih1
    have a2 := sls_le (b := fun z => 182 * (flatP n z).length) ih2
    have c1 := sh_tup (.str w :: .str t :: .tuple xs :: ys)
    have c2 := sh_tup xs
    simp only [sls] at *
    omega
/-! ### what may be shown -/
theorem showAll_of : ∀ {l : List PyData}, (∀ x, x ∈ l → x.showable = true) → PyData.showableAll l = true
  | [], _ => by simp only [PyData.showableAll]
  | x :: l, h => by
    simp only [PyData.showableAll, h x List.mem_cons_self, showAll_of fun y hy => h y (List.mem_cons_of_mem _ hy), Bool.and_self]
theorem Ex.show {zs : List Str} : ∀ {n : Nat} {x : PyData}, Ex zs n x → x.showable = true := by
  intro n x h
  induction h with
  | leaf n x h =>
    cases h with
    | int i h1 h2 =>
      have := int_log h1 h2
      simp only [PyData.showable, PyData.showableAll, Bool.and_true, Bool.true_and]
      exact decide_eq_true (by omega)
    | let_ i h1 h2 =>
      have := int_log (show -(10 ^ 18) ≤ i by omega) (show i ≤ 10 ^ 18 by omega)
      simp only [PyData.showable, PyData.showableAll, Bool.and_true, Bool.true_and]
      exact decide_eq_true (by omega)
    | key => simp only [PyData.showable, PyData.showableAll, Bool.and_true, Bool.true_and]
    | var z h => simp only [PyData.showable, PyData.showableAll, Bool.and_true, Bool.true_and]
  | cell n t v x h1 h2 h3 ih => simp only [PyData.showable, PyData.showableAll, Bool.and_true, Bool.true_and, ih]
  | op n o x y h1 h2 h3 ih1 ih2 => simp only [PyData.showable, PyData.showableAll, Bool.and_true, Bool.true_and, ih1, ih2]
  | iff n x y z h1 h2 h3 ih1 ih2 ih3 => simp only [PyData.showable, PyData.showableAll, Bool.and_true, Bool.true_and, ih1, ih2, ih3]
  | agg n o t xs ys h1 h2 h3 h4 h5 ih1 ih2 => simp only [PyData.showable, PyData.showableAll, Bool.and_true, Bool.true_and, showAll_of ih1, showAll_of ih2]
end L41

namespace L41
open PySem PySem.Spec PyProof.Rows L2 GR WX TX UA RZ NdefX CLo LamX
section
variable {X : L2.Cx}
def rReprL (X : L2.Cx) : List V → Hp → VK → Prop := fun xs H Q => ∃ (a : Addr) (d : PyData), xs = [.ref a] ∧ Dp X.K H (.ref a) d ∧ d.showable = true ∧ d.depth ≤ 190 ∧ d.shown.length ≤ sizeLine ∧ Q (.str d.shown) H
theorem call_reprL {k : Nat} (hg : X.A.guards = some []) (hr : Room k X.A) : CallR X (.builtin "repr") (rReprL X) := by
  intro pins s σ H xs us Q I r h
  obtain ⟨a, d, rfl, hd, hs, hdep, hz, q⟩ := h
  obtain ⟨u, rfl, rv⟩ := vals1 r
  obtain rfl : u = Value.ref a := rv
  obtain ⟨as, hR⟩ := Dp.reads I d _ _ hd rfl
  have hu := hr.un
  exact repr_of_reads' hR hs (PyData.noDict_hsm (nodict hd)) hg (by omega) (fun _ _ e => e) (fun h' u tk hk => ⟨.str d.shown, H, I.kept hk, ⟨_, rfl⟩, q⟩) hz
end
def ShL (d : PyData) : Prop := d.showable = true ∧ d.depth ≤ 190 ∧ d.shown.length ≤ sizeLine
theorem LedP.ext {K : PySem.W.Frag} {T : List NTab} {H H' : Hp} {lg : Addr} {vx : V} {pl : Int} {ms : List Int} {es : List Ent} {x : PyData} {zs : List Str} {n : Nat} {due : PyData} {zd : List Str} {nd : Nat} (h : LedP K T H lg vx pl ms es x zs n due zd nd) (x' : ExtN H H') (t : TabsN T H') : LedP K T H' lg vx pl ms es x zs n due zd nd :=
  have k := KeepT.ext x'
  ⟨h.lgd.keep k, h.ndp, h.esl, h.ex.kept k h.dp, h.ex, h.ok, h.b, h.z7, h.zi, h.duep.keep k, h.ed, h.bd, h.dd, h.d7, h.di, t, h.p0, h.p1⟩
section
variable {P : Program} {w : World} {K : PySem.W.Frag} {mg : Str → Option Value} {base : Heap}
abbrev s_law_step_right : Stmt := topS 59
abbrev N_sr : List Str := ["_law_made_here", "_law_thing", "_law_place", "_law_due", "_law_handed", "_law_again", "_law_found"]
abbrev ps_sr : List Str := ["_law_made_here", "_law_thing", "_law_place", "_law_due"]
theorem sc_law_step_right : FnScope N_sr ps_sr (defScope s_law_step_right) := ⟨rfl, rfl, rfl, by decide +kernel, rfl, by decide +kernel, by decide +kernel⟩
def sp_sr (K : PySem.W.Frag) (T : List NTab) : Sp := fun vs H Q _ => ∃ (lg : Addr) (vx vd : V) (pl : Int) (ms : List Int) (es : List Ent) (x : PyData) (zs : List Str) (n : Nat) (due : PyData) (zd : List Str) (nd : Nat), vs = [.ref lg, vx, .int (pl + 1), vd] ∧ LedP K T H lg vx pl ms es x zs n due zd nd ∧ Dp K H vd due ∧ ShL (.tuple [logD ms es, x]) ∧ ShL due ∧
  ∀ H', ExtN H H' → TabsN T H' → Q (.bl true) H'
theorem ok_step_right {T : List NTab} {f fl : Addr} {fd fdl : FuncData} {k : Nat} (F : Fun K "_law_step_right" "_law_step_right" s_law_step_right f fd) (Gl : FnOk P w K mg base CX0 k fl fdl ["log", "expression", "position"] (sp_led K T)) (gl : mg "led" = some (.ref fl)) (Kl : PySem.W.keepIn K (.ref fl) = true) (bl : Binds K fdl ["log", "expression", "position"] [])
    (mrange : mg "range" = none) (mrepr : mg "repr" = none) (misi : mg "isinstance" = none) (mtuple : mg "tuple" = none) : FnG P w K mg base CX0 (k + 1) f fd ps_sr (sp_sr K T) := by
  have nd := sc_law_step_right.nd
  refine ok_g F sc_law_step_right (fun vs H Q E h => ?_) (fun cdv A outer s H vs Q E hg hr h => ?_)
  · obtain ⟨lg, vx, vd, pl, ms, es, x, zs, n, due, zd, nd, rfl, _⟩ := h
    rfl
  obtain ⟨lg, vx, vd, pl, ms, es, x, zs, n, due, zd, nn, rfl, L, hdd, ⟨sh1, sh2, sh3⟩, ⟨sd1, sd2, sd3⟩, q⟩ := h
  refine ⟨_, (pss_cons (ps_set (i := 4) nd rfl (.inl rfl) (pe_callB (call_reprL hg hr) (by rfl) mrepr boot_repr (pa_cons (pe_tup (pa_cons (pv 0) (pa_cons (pv 1) pa_nil))) pa_nil)))
      (pss_cons (ps_for PassesOwn.never rfl (pi_range1 rfl mrange (pa_cons pe_int pa_nil)) (pg_name (i := 5) nd rfl (Or.inl rfl))
      (pss_cons (ps_set (i := 6) nd rfl (.inl rfl) (pe_call Gl hr (by rfl) gl Kl bl .nil pass0 (pa_cons (pv 0) (pa_cons (pv 1) (pa_cons (pv 2) pa_nil)))))
        (pss_one (ps_if (PW.pt (pw_or (pt_not (pt_val (pe_callB call_isi (by rfl) misi boot_isinstance (pa_cons (pv 6) (pa_cons (pe_bltn (v := .ty "tuple") (by rfl) mtuple boot_tuple rfl) pa_nil))))) (pw_or1 (pt_cmpR op_ne (pe_callB (call_reprL hg hr) (by rfl) mrepr boot_repr (pa_cons (pv 6) pa_nil)) (pe_callB (call_reprL hg hr) (by rfl) mrepr boot_repr (pa_cons (pv 3) pa_nil)) (nomark _)))))
        (pss_one (ps_ret pe_bl))
        pss_nil))))
      (pss_one (ps_ret (pe_cmpR op_eq (pe_callB (call_reprL hg hr) (by rfl) mrepr boot_repr (pa_cons (pe_tup (pa_cons (pv 0) (pa_cons (pv 1) pa_nil))) pa_nil)) (pv 4) (nomark _)))))), ?_⟩
  have flx : flatDs [logD ms es, x] = true := by simp only [flatDs, flat_log L.lgd.fl, L.ex.flat, Bool.and_self]
  refine ⟨.ref lg, rfl, vx, rfl, le2, fun t nt => ⟨t, _, rfl, new_tup (.cons L.lgd.dp (.cons L.dp .nil)) flx nt, sh1, sh2, sh3, ?_⟩⟩
  have s1 := same_upd (o := .tup [.ref lg, vx]) nt
  refine ⟨2, rfl, by decide, by decide, ?_⟩
  refine for_range (n := 2) (fun i σ H' => ∃ (y5 y6 : Option V), σ = [some (.ref lg), some vx, some (.int (pl + 1)), some vd, some (.str (PyData.tuple [logD ms es, x]).shown), y5, y6] ∧ ExtN H H' ∧ TabsN T H') ?_ ?_ ?_
  · exact ⟨none, none, rfl, ExtN.of s1, L.tabs.ext s1⟩
  · rintro i σ H2 hi ⟨y5, y6, rfl, x2, t2⟩
    refine ⟨.ref lg, rfl, vx, rfl, .int (pl + 1), rfl, lg, vx, pl, ms, es, x, zs, n, due, zd, nn, rfl, L.ext x2 t2, fun H3 v3 x3 t3 hv3 => ?_⟩
    have x03 := x2.trans x3
    have hd3 := L.ed.kept (KeepT.ext x03) hdd
    obtain ⟨w1, f1, r1, e1, _, _⟩ := L.ed.form
    have hv3' := hv3
    rw [e1] at hv3'
    cases hv3' with
    | @tup a3 _ _ hS3 _ =>
    have hd3' := hd3
    rw [e1] at hd3'
    cases hd3' with
    | @tup ad _ _ hSd _ =>
    refine ⟨.ref a3, rfl, .ref a3, .ty "tuple", _, _, _, rfl, .ty "tuple", ty_tup hS3, kit_tt K, _, rfl, iteF ⟨.ref a3, rfl, a3, due, rfl, hv3, sd1, sd2, sd3, .ref ad, rfl, ad, due, rfl, hd3, sd1, sd2, sd3, rfl, _, rfl, ?_⟩⟩
    rw [decide_eq_true rfl]
    exact iteF ⟨_, _, rfl, x03, t3⟩
  · rintro σ H2 ⟨y5, y6, rfl, x2, t2⟩
    have L2 := L.ext x2 t2
    refine ⟨.ref lg, rfl, vx, rfl, le2, fun t' nt' => ⟨t', _, rfl, new_tup (.cons L2.lgd.dp (.cons L2.dp .nil)) flx nt', sh1, sh2, sh3, _, rfl, rfl, ?_⟩⟩
    rw [decide_eq_true rfl]
    have s3 := same_upd (o := .tup [.ref lg, vx]) nt'
    exact q _ (x2.trans (ExtN.of s3)) (t2.ext s3)
end
end L41

namespace L41
open PySem PySem.Spec PyProof.Rows L2 GR WX TX UA RZ NdefX CLo LamX
section
variable {P : Program} {w : World} {K : PySem.W.Frag} {mg : Str → Option Value} {base : Heap}
theorem ok_ex {b k : Nat} {f : Addr} {fd : FuncData} {ps : List Str} {sp : Nat → Sp} (h : ∀ n, n ≤ b → FnOk P w K mg base CX0 k f fd ps (sp n)) : FnOk P w K mg base CX0 k f fd ps (fun vs H Q E => ∃ n, n ≤ b ∧ sp n vs H Q E) :=
  ⟨fun vs H Q E ⟨n, h1, h2⟩ => (h n h1).1 vs H Q E h2, fun A outer s H args us vs Q E hr he hb hv ⟨n, h1, h2⟩ => (h n h1).2 A outer s H args us vs Q E hr he hb hv h2⟩
theorem nm_in : Nm ("in" : Str) := nm_lit (by decide +kernel)
theorem NamesOk.zm {ts cs : List Str} (N : NamesOk ts cs) : ∀ z, z ∈ ZN ts cs → Nm z := fun z hz => by
  rcases List.mem_cons.mp hz with rfl | h
  · exact nm_in
  · exact N.nm z h
abbrev s_law_right : Stmt := topS 60
abbrev N_ri : List Str := ["_law_made_here", "_law_thing", "_law_rows_here", "_law_place", "_law_due", "_law_parts", "_law_deep"]
theorem sc_law_right : FnScope N_ri ["_law_made_here", "_law_thing"] (defScope s_law_right) := ⟨rfl, rfl, rfl, by decide +kernel, rfl, by decide +kernel, by decide +kernel⟩
def sp_ri (K : PySem.W.Frag) (T : List NTab) : Sp := fun vs H Q _ => ∃ (lg : Addr) (vx : V) (ms pre : List Int) (es : List Ent) (ts cs : List Str) (M : Int) (x : PyData) (n : Nat), vs = [.ref lg, vx] ∧ LgD K H lg ms es ∧ GoodL ms es ts cs ∧ NamesOk ts cs ∧ ms = pre ++ [M] ∧ 0 ≤ M ∧ M ≤ 21 ∧ Eb 0 (letPos es) (ZN ts cs) n x ∧ n ≤ 60 ∧ (flatP n x).length ≤ 800 ∧ Dp K H vx x ∧ TabsN T H ∧
  (logD ms es).showable = true ∧ (logD ms es).depth ≤ 12 ∧ sl (logD ms es) ≤ 1000000 ∧ ∀ H', ExtN H H' → TabsN T H' → Q (.bl true) H'
theorem ok_right {T : List NTab} {f f_ro f_ld f_sz f_sr : Addr} {fd d_ro d_ld d_sz d_sr : FuncData} {k : Nat} (F : Fun K "_law_right" "_law_right" s_law_right f fd)
    (Gro : FnOk P w K mg base CX0 k f_ro d_ro ["_law_made_here"] (sp_ro K)) (gro : mg "_law_rows" = some (.ref f_ro)) (Kro : PySem.W.keepIn K (.ref f_ro) = true) (bro : Binds K d_ro ["_law_made_here"] [])
    (Gld : FnOk P w K mg base CX0 k f_ld d_ld ps_ld (fun vs H Q E => ∃ n, n ≤ 60 ∧ sp_ld K n vs H Q E)) (gld : mg "_law_led" = some (.ref f_ld)) (Kld : PySem.W.keepIn K (.ref f_ld) = true) (bld : Binds K d_ld ps_ld [])
    (Gsz : FnOk P w K mg base CX0 k f_sz d_sz ["_law_thing"] (fun vs H Q E => ∃ n, n ≤ 72 ∧ sp_size K n vs H Q E)) (gsz : mg "_law_size" = some (.ref f_sz)) (Ksz : PySem.W.keepIn K (.ref f_sz) = true) (bsz : Binds K d_sz ["_law_thing"] [])
    (Gsr : FnG P w K mg base CX0 k f_sr d_sr ps_sr (sp_sr K T)) (gsr : mg "_law_step_right" = some (.ref f_sr)) (Ksr : PySem.W.keepIn K (.ref f_sr) = true) (bsr : Binds K d_sr ps_sr []) (mrange : mg "range" = none) :
    FnG P w K mg base CX0 (k + 1) f fd ["_law_made_here", "_law_thing"] (sp_ri K T) := by
  have nd := sc_law_right.nd
  refine ok_g F sc_law_right (fun vs H Q E h => ?_) (fun cdv A outer s H vs Q E hg hr h => ?_)
  · obtain ⟨lg, vx, ms, pre, es, ts, cs, M, x, n, rfl, _⟩ := h
    rfl
  obtain ⟨lg, vx, ms, pre, es, ts, cs, M, x, n, rfl, hL, G, N, hpre, hM0, hM1, hx, hn, hb, hd, hT, sh1, sh2, sh3, q⟩ := h
  refine ⟨_, (pss_cons (ps_set (i := 2) nd rfl (.inl rfl) (pe_call Gro hr (by rfl) gro Kro bro .nil pass0 (pa_cons (pv 0) pa_nil)))
      (pss_cons (ps_for PassesOwn.never rfl (pi_range3 rfl mrange (pa_cons (pe_ix ix_tup (pe_ix ix_tup (pv 0) pe_int (fun _ _ => rfl)) (pe_un un_neg pe_int) (fun _ _ => rfl)) (pa_cons pe_int (pa_cons (pe_un un_neg pe_int) pa_nil)))) (pg_name (i := 3) nd rfl (Or.inl rfl))
      (pss_cons (ps_set (i := 4) nd rfl (.inl rfl) (pe_call Gld hr (by rfl) gld Kld bld .nil pass0 (pa_cons (pv 2) (pa_cons (pv 1) (pa_cons (pe_op op_sub (pv 3) pe_int) pa_nil)))))
        (pss_cons (ps_asg (pe_call Gsz hr (by rfl) gsz Ksz bsz .nil pass0 (pa_cons (pv 4) pa_nil)) (pg_tup rfl (pgs_cons (pg_name (i := 5) nd rfl (Or.inl rfl)) (pgs_cons (pg_name (i := 6) nd rfl (Or.inl rfl)) pgs_nil))))
        (pss_cons (ps_if (PW.pt (pw_or (pt_cmpR op_gt (pv 5) pe_int (nomark _)) (pw_or1 (pt_cmpR op_gt (pv 6) pe_int (nomark _)))))
        (pss_one (ps_ret pe_bl))
        pss_nil)
        (pss_cons (ps_if (pt_not (pt_val (pe_callG Gsr hg hr (by rfl) gsr Ksr bsr pass0 (pa_cons (pv 0) (pa_cons (pv 1) (pa_cons (pv 3) (pa_cons (pv 4) pa_nil)))))))
        (pss_one (ps_ret pe_bl))
        pss_nil)
        (pss_one (ps_set (i := 1) nd rfl (.inl rfl) (pv 4))))))))
      (pss_one (ps_ret pe_bl)))), ?_⟩
  refine ⟨.ref lg, rfl, lg, ms, es, ts, cs, rfl, hL, G, fun H1 d kvs s1 hdk hst => ?_⟩
  obtain ⟨mp, ep, rs, h1, h2, h3, h4⟩ := (hL.keep (KeepT.of s1)).parts
  have hlast : atI (ms.map V.int) (-1) = some (.int M) := by
    rw [hpre, List.map_append]
    exact atI_last _ _
  have fr := G.flatR hL.fl
  have hnd : (es.map (·.1)).Nodup := G.asc.imp fun {a b} h => by omega
  refine ⟨.ref lg, rfl, lg, _, 0, .ref mp, rfl, rfl, h1, at0, 1, rfl, mp, _, -1, .int M, rfl, rfl, h2, hlast, 1, rfl, M, 0, -1, M.toNat, rfl, ?_, ?_⟩
  · have := RgC.neg (i := M) (j := 0) (by omega) (by omega) (by omega) (by omega)
    rw [Int.sub_zero] at this
    exact this
  refine for_rangeC (n := M.toNat) (fun i σ H' => ∃ (v : V) (y : PyData) (m : Nat) (y3 y4 y5 y6 : Option V), σ = [some (.ref lg), some v, some (.ref d), y3, y4, y5, y6] ∧ ExtN H1 H' ∧ TabsN T H' ∧ Dp K H' v y ∧ Eb i (letPos es) (ZN ts cs) m y ∧ m ≤ 60 ∧ (flatP m y).length ≤ 800) ?_ ?_ ?_
  · exact ⟨vx, x, n, none, none, none, none, rfl, ExtN.refl _, hT.ext s1, (hx.ex (by decide)).kept (KeepT.of s1) hd, hx, hn, hb⟩
  · rintro i σ H2 hi ⟨v, y, m, y3, y4, y5, y6, rfl, x2, t2, hdy, hy, hm, hby⟩
    have hi21 : i < 21 := by omega
    have k12 := KeepT.ext x2
    have hdk2 := x2 _ _ hdk (fun _ z => by cases z)
    have hst2 := hst.keep k12 fr
    have hL2 := (hL.keep (KeepT.of s1)).keep k12
    have hyx := hy.ex (by omega : i ≤ 40)
    obtain ⟨r, mk, hrm, hrb, hpo, hdue⟩ := due_ok (K := K) G N hy (by omega) (M + ((i : Nat) : Int) * (-1) - 1)
    have hled := hy.led List.mem_cons_self hrb
    have hdx := hled.ex (by omega : i + 1 ≤ 40)
    refine ⟨.ref d, rfl, v, rfl, .int (M + ((i : Nat) : Int) * (-1)), rfl, _, 1, rfl, rfl, m, hm, d, v, _, kvs, rowsD es, r, y, ZN ts cs, mk, rfl, hdk2, hst2, fr, hdy, hyx, N.zn, hrm, hpo, fun H3 vd s3 hvd => ?_⟩
    refine ⟨vd, rfl, m + 7 + 5, by omega, vd, _, ZN ts cs, rfl, hvd, hdx, fun H4 p4 s4 hp4 => ?_⟩
    refine ⟨p4, _, rfl, .inl (.inl hp4), rfl, _, _, rfl, _, _, rfl, rfl, ?_⟩
    have x14 := x2.trans (ExtN.of (s3.trans s4))
    have t4 : TabsN T H4 := t2.ext (s3.trans s4)
    refine ⟨_, rfl, _, 600, rfl, rfl, _, rfl, ite2 (fun _ => q _ ((ExtN.of s1).trans x14) t4) (fun c1 => ⟨_, rfl, _, 60, rfl, rfl, _, rfl, ite2 (fun _ => q _ ((ExtN.of s1).trans x14) t4) (fun c2 => ?_)⟩)⟩
    have c1' : ¬ ((((flatP (m + 7 + 5) (foldE W2 mk m y)).length : Nat) : Int) > 600) := fun h => c1 (decide_eq_true h)
    have c2' : ¬ (((dpt (m + 7 + 5) (foldE W2 mk m y) : Nat) : Int) > 60) := fun h => c2 (decide_eq_true h)
    have ht := hled.tight (by omega : i + 1 ≤ 40) (m := 60) (by omega)
    have htx := ht.ex (by omega : i + 1 ≤ 40)
    have hf60 : (flatP 60 (foldE W2 mk m y)).length ≤ 600 := by
      have e1 := flatP_stable htx (Nat.le_max_left 60 (m + 7 + 5))
      have e2 := flatP_stable hdx (Nat.le_max_right 60 (m + 7 + 5))
      rw [← e1, e2]
      omega
    have k34 := KeepT.of (s3.trans s4)
    have hdy4 := hyx.kept k34 hdy
    have hvd4 := hdx.kept (KeepT.of s4) hvd
    have hL4 := hL2.keep k34
    have hzl : (ZN ts cs).length ≤ 7 := by
      have := N.len
      simp only [List.length_cons, List.length_append]
      omega
    have z24 : sizeLine = 16777216 := sizeLine_eq
    have ly := len_ex N.zm hyx
    have ld := len_ex N.zm htx
    have dy := depth_of hyx
    have dd := depth_of htx
    have hpl : M + ((i : Nat) : Int) * (-1) - 1 + 1 = M + ((i : Nat) : Int) * (-1) := Int.sub_add_cancel _ _
    refine ⟨.ref lg, rfl, v, rfl, .int (M + ((i : Nat) : Int) * (-1)), rfl, vd, rfl, lg, v, vd, M + ((i : Nat) : Int) * (-1) - 1, ms, es, y, ZN ts cs, m, foldE W2 mk m y, ZN ts cs, m + 7 + 5, by rw [hpl, List.append_nil], ⟨hL4, hnd, G.esl, hdy4, hyx, N.zn, by omega, hzl, List.mem_cons_self, hdue H4 lg hL4, hdx, by omega, by rw [deepN_mx]; show max _ 0 ≤ 100; omega, hzl, List.mem_cons_self, t4, by omega, by omega⟩, hvd4, ⟨?_, ?_, ?_⟩, ⟨htx.show, by omega, ?_⟩, fun H5 x5 t5 => ⟨_, rfl, iteF ⟨vd, rfl, ?_⟩⟩⟩
    · simp only [PyData.showable, PyData.showableAll, sh1, hyx.show, Bool.and_self]
    · simp only [PyData.depth, PyData.depthAll]
      omega
    · have h3 := sh_tup [logD ms es, y]
      simp only [sls] at h3
      show sl (.tuple [logD ms es, y]) ≤ sizeLine
      omega
    · show sl (foldE W2 mk m y) ≤ sizeLine
      omega
    · exact ⟨vd, foldE W2 mk m y, 60, _, _, _, _, rfl, x14.trans x5, t5, htx.kept (KeepT.ext x5) hvd4, ht, Nat.le_refl _, by omega⟩
  · rintro σ H2 ⟨v, y, m, y3, y4, y5, y6, rfl, x2, t2, _⟩
    exact q _ ((ExtN.of s1).trans x2) t2
end
end L41

namespace L41
open PySem PySem.Spec PyProof.Rows L2 GR WX TX UA RZ NdefX CLo LamX
/-! ### the log as it is shown -/
theorem log_show {ms : List Int} {es : List Ent} (hm : ∀ m, m ∈ ms → 0 ≤ m ∧ m ≤ 1000) (he : ∀ e, e ∈ es → 0 ≤ e.1 ∧ e.1 ≤ 1000) (hf : ∀ e, e ∈ es → Fine 8 12000 e.2) (lm : ms.length ≤ 6) (le : es.length ≤ 30) : (logD ms es).showable = true ∧ (logD ms es).depth ≤ 12 ∧ sl (logD ms es) ≤ 1000000 := by
  have i1 : ∀ {i : Int}, 0 ≤ i → i ≤ 1000 → (PyData.int i).showable = true := fun {i} h1 h2 => by
    have := int_log (show -(10 ^ 18) ≤ i by omega) (show i ≤ 10 ^ 18 by omega)
    simp only [PyData.showable]
    exact decide_eq_true (by omega)
  refine ⟨?_, ?_, ?_⟩
  · have a : PyData.showableAll (ms.map PyData.int) = true := showAll_of fun x hx => by
      obtain ⟨m, h, rfl⟩ := List.mem_map.mp hx
      exact i1 (hm m h).1 (hm m h).2
    have b : PyData.showableAll (es.map ed) = true := showAll_of fun x hx => by
      obtain ⟨e, h, rfl⟩ := List.mem_map.mp hx
      unfold ed
      simp only [PyData.showable, PyData.showableAll, (hf e h).shw, Bool.and_true]
      have := i1 (he e h).1 (he e h).2
      simp only [PyData.showable] at this
      exact this
    unfold logD
    simp only [PyData.showable, PyData.showableAll, a, b, Bool.and_self]
  · have a : PyData.depthAll (ms.map PyData.int) ≤ 10 := depth_all fun x hx => by
      obtain ⟨m, h, rfl⟩ := List.mem_map.mp hx
      simp only [PyData.depth]
      omega
    have b : PyData.depthAll (es.map ed) ≤ 9 := depth_all fun x hx => by
      obtain ⟨e, h, rfl⟩ := List.mem_map.mp hx
      have := (hf e h).dep
      unfold ed
      simp only [PyData.depth, PyData.depthAll]
      omega
    unfold logD
    simp only [PyData.depth, PyData.depthAll]
    omega
  · have a : sls (ms.map PyData.int) ≤ 30 * ms.length := by
      clear lm
      induction ms with
      | nil => exact Nat.zero_le _
      | cons m ms ih =>
        have h1 := ih fun x hx => hm x (List.mem_cons_of_mem _ hx)
        have h2 := hm m List.mem_cons_self
        have h3 := sl_int (show -(10 ^ 18) ≤ m by omega) (show m ≤ 10 ^ 18 by omega)
        rw [List.map_cons, sls, List.length_cons]
        omega
    have b : sls (es.map ed) ≤ 12100 * es.length := by
      clear le
      induction es with
      | nil => exact Nat.zero_le _
      | cons e es ih =>
        have h1 := ih (fun x hx => he x (List.mem_cons_of_mem _ hx)) fun x hx => hf x (List.mem_cons_of_mem _ hx)
        have h2 := he e List.mem_cons_self
        have h3 := sl_int (show -(10 ^ 18) ≤ e.1 by omega) (show e.1 ≤ 10 ^ 18 by omega)
        have h4 := (hf e List.mem_cons_self).len
        have h5 := sh_tup [.int e.1, e.2]
        simp only [sls] at h5
        rw [List.map_cons, sls, List.length_cons]
        have h6 : sl (ed e) = sl (.tuple [.int e.1, e.2]) := rfl
        omega
    have h1 := sh_tup (ms.map PyData.int)
    have h2 := sh_tup (es.map ed)
    have h3 := sh_tup [.tuple (ms.map PyData.int), .tuple (es.map ed)]
    simp only [sls] at h3
    unfold logD
    omega
/-- the tables stay where only lists change -/
theorem TabsN.lsts {T : List NTab} {H H' : Hp} (hT : TabsN T H) (k : ∀ b o, (∀ xs, o ≠ .lst xs) → H b = some o → H' b = some o) : TabsN T H' := fun p hp => by
  obtain ⟨ps, h1, h2, h3⟩ := hT p hp
  refine ⟨ps, k _ _ (fun xs z => by cases z) h1, h2, fun pos cv hc => ?_⟩
  obtain ⟨c, e1, e2⟩ := h3 pos cv hc
  exact ⟨c, e1, k _ _ (fun xs z => by unfold CodeO at z; cases z) e2⟩
theorem TabsN.kd {T : List NTab} {H H' : Hp} {d c : Addr} {N : Int} (hT : TabsN T H) (D : Deck H d c N) (k : Keep d c H H') : TabsN T H' := by
  obtain ⟨cells, m, n, h1, h2, _⟩ := D
  refine L41.TabsN.lsts hT fun b o ne e => k b o (fun z => ?_) (fun z => ?_) e
  · rw [z, h1] at e
    exact ne _ (Option.some.inj e).symm
  · rw [z, h2] at e
    exact ne _ (Option.some.inj e).symm
theorem Deck.ext {H H' : Hp} {d c : Addr} {N : Int} (D : Deck H d c N) (x : ExtN H H') : Deck H' d c N := by
  obtain ⟨cells, m, n, h1, h2, h3⟩ := D
  exact ⟨cells, m, n, x _ _ h1 (fun _ z => by cases z), x _ _ h2 (fun _ z => by cases z), h3⟩
abbrev s_law : Stmt := topS 61
abbrev N_law : List Str := ["_law_script", "_law_deck_here", "_law_turn", "_law_world_here", "_law_made_here"]
theorem sc_law : FnScope N_law ["_law_script"] (defScope s_law) := ⟨rfl, rfl, rfl, by decide +kernel, rfl, by decide +kernel, by decide +kernel⟩
def sp_law (K : PySem.W.Frag) (T : List NTab) : Sp := fun vs H Q _ => ∃ (a : Addr) (ns : List Int), vs = [.ref a] ∧ SqL K H a (ns.map V.int) ∧ TabsN T H ∧ ∀ H', Q (.bl true) H'
section
variable {P : Program} {w : World} {K : PySem.W.Frag} {mg : Str → Option Value} {base : Heap}
theorem ok_law {TT : List NTab} {f f_deck f_draw f_world f_ri f_lm f_ex : Addr} {fd d_deck d_draw d_world d_ri d_lm d_ex : FuncData} {k : Nat} (F : Fun K "law" "law" s_law f fd)
    (G_deck : FnOk P w K mg base CX0 k f_deck d_deck ["_law_script"] (sp_deck K)) (g_deck : mg "_law_deck" = some (.ref f_deck)) (K_deck : PySem.W.keepIn K (.ref f_deck) = true) (b_deck : Binds K d_deck ["_law_script"] [])
    (G_draw : FnOk P w K mg base CX0 k f_draw d_draw ["_law_deck_here", "_law_most"] sp_draw) (g_draw : mg "_law_draw" = some (.ref f_draw)) (K_draw : PySem.W.keepIn K (.ref f_draw) = true) (b_draw : Binds K d_draw ["_law_deck_here", "_law_most"] [])
    (G_world : FnOk P w K mg base CX0 k f_world d_world ["_law_deck_here"] sp_world) (g_world : mg "_law_world" = some (.ref f_world)) (K_world : PySem.W.keepIn K (.ref f_world) = true) (b_world : Binds K d_world ["_law_deck_here"] [])
    (G_lm : FnOk P w K mg base CX0 k f_lm d_lm ps_lm (sp_lm K)) (g_lm : mg "_law_made" = some (.ref f_lm)) (K_lm : PySem.W.keepIn K (.ref f_lm) = true) (b_lm : Binds K d_lm ps_lm [])
    (G_ex : FnOk P w K mg base CX0 k f_ex d_ex ps_ex (sp_expr K 3)) (g_ex : mg "_law_expression" = some (.ref f_ex)) (K_ex : PySem.W.keepIn K (.ref f_ex) = true) (b_ex : Binds K d_ex ps_ex [])
    (G_ri : FnG P w K mg base CX0 k f_ri d_ri ["_law_made_here", "_law_thing"] (sp_ri K TT)) (g_ri : mg "_law_right" = some (.ref f_ri)) (K_ri : PySem.W.keepIn K (.ref f_ri) = true) (b_ri : Binds K d_ri ["_law_made_here", "_law_thing"] [])
    (mrange : mg "range" = none) : FnG P w K mg base CX0 (k + 1) f fd ["_law_script"] (sp_law K TT) := by
  have nd := sc_law.nd
  refine ok_g F sc_law (fun vs H Q E h => ?_) (fun cdv A outer s H vs Q E hg hr h => ?_)
  · obtain ⟨a, ns, rfl, _⟩ := h
    rfl
  obtain ⟨a, ns, rfl, hS, hTT, q⟩ := h
  refine ⟨_, (pss_cons (ps_set (i := 1) nd rfl (.inl rfl) (pe_call G_deck hr (by rfl) g_deck K_deck b_deck .nil pass0 (pa_cons (pv 0) pa_nil)))
      (pss_cons (ps_for PassesOwn.never rfl (pi_range1 rfl mrange (pa_cons pe_int pa_nil)) (pg_name (i := 2) nd rfl (Or.inl rfl))
      (pss_cons (ps_set (i := 3) nd rfl (.inl rfl) (pe_call G_world hr (by rfl) g_world K_world b_world .nil pass0 (pa_cons (pv 1) pa_nil)))
        (pss_cons (ps_set (i := 4) nd rfl (.inl rfl) (pe_call G_lm hr (by rfl) g_lm K_lm b_lm .nil pass0 (pa_cons (pv 1) (pa_cons (pv 3) (pa_cons (pe_op op_add pe_int (pe_call G_draw hr (by rfl) g_draw K_draw b_draw .nil pass0 (pa_cons (pv 1) (pa_cons pe_int pa_nil)))) (pa_cons pe_int pa_nil))))))
        (pss_one (ps_if (pt_not (pt_val (pe_callG G_ri hg hr (by rfl) g_ri K_ri b_ri pass0 (pa_cons (pv 4) (pa_cons (pe_call G_ex hr (by rfl) g_ex K_ex b_ex .nil pass0 (pa_cons (pv 1) (pa_cons (pv 3) (pa_cons pe_int (pa_cons (pe_lst pa_nil) (pa_cons pe_int pa_nil)))))) pa_nil)))))
        (pss_one (ps_ret pe_bl))
        pss_nil)))))
      (pss_one (ps_ret pe_bl)))), ?_⟩
  refine ⟨.ref a, rfl, a, ns, rfl, hS, fun H1 d c s1 n1 D1 => ?_⟩
  have hT1 : TabsN TT H1 := hTT.ext s1
  refine ⟨3, rfl, by decide, by decide, ?_⟩
  refine for_range (n := 3) (fun i σ H' => ∃ y2 y3 y4, σ = [some (.ref a), some (.ref d), y2, y3, y4] ∧ Deck H' d c (1000000 * (i : Int)) ∧ TabsN TT H') ?_ ?_ ?_
  · exact ⟨none, none, none, rfl, D1.mono (by omega), hT1⟩
  · rintro i σ H2 hi ⟨y2, y3, y4, rfl, D2, hT2⟩
    refine ⟨.ref d, rfl, d, c, _, rfl, D2, by omega, fun H3 u tl cl nl kl ts cs nms ks k3 D3 nu W3 => ?_⟩
    have hT3 := L41.TabsN.kd hT2 D2 k3
    refine ⟨.ref d, rfl, .ref u, rfl, .ref d, rfl, d, c, _, 3, rfl, D3, by omega, by decide, by decide, fun H4 r k4 D4 r0 r4 => ?_⟩
    have hT4 := L41.TabsN.kd hT3 D3 k4
    obtain ⟨n, rfl⟩ := Int.eq_ofNat_of_zero_le r0
    have W4 := W3.keep k4
    have A4 : AtW H4 d c u ts cs nms := ⟨tl, cl, nl, kl, ks, W4⟩
    refine ⟨1, (n : Int), rfl, rfl, d, c, u, _, n + 1, ts, cs, nms, (by rw [show ((n + 1 : Nat) : Int) = 1 + (n : Int) by omega]; rfl), by omega, D4, by omega, A4, fun H5 p ms es pre M k5 D5 hL hG hpre hM0 hM1 hfe hmz => ?_⟩
    have hT5 := L41.TabsN.kd hT4 D4 k5
    have A5 := A4.keep k5
    have N : NamesOk ts cs := ⟨fun z hz => (List.mem_append.mp hz).elim (W4.at' z) (W4.ac z), by rw [W4.lt, W4.lc]; decide⟩
    have hdx3 : dx 3 ≤ 20000 := by decide
    obtain ⟨g1, g2, g3⟩ := log_show (ms := ms) (es := es) (fun m hm => by have := hmz m hm; omega) (fun e he => by have := hG.bd e he; omega) hfe hG.msl hG.esl
    refine ⟨.ref p, rfl, .ref d, rfl, .ref u, rfl, Nat.zero_le _, fun sc nsc => ?_⟩
    have s6 := same_upd (o := .lst []) nsc
    have D6 := D5.same s6
    refine ⟨d, c, u, sc, _, 3, 0, ts, cs, nms, [], rfl, D6, by omega, A5.keep (Keep.of s6), ⟨upd_same, D5.new nsc, fun z hz => (nomatch hz), Nat.zero_le _⟩, by decide, by decide, by decide, fun H7 vx x k7 D7 hfin hcx hdx => ?_⟩
    have hb : Eb 0 (letPos es) (ZN ts cs) 5 x := hcx.eb0 N.plus nmx_ZN List.mem_cons_self
    have kt : KeepT H5 H7 := (KeepT.of s6).trans (k7.t D6)
    have hT7 := L41.TabsN.kd (hT5.ext s6) D6 k7
    refine ⟨p, vx, ms, pre, es, ts, cs, M, x, 5, rfl, hL.keep kt, hG, N, hpre, hM0, hM1, hb, by decide, Nat.le_trans (hcx.size in_nmx) (by decide), hdx, hT7, g1, g2, g3, fun H8 x8 t8 => ⟨_, rfl, iteF ⟨_, _, _, rfl, (L41.Deck.ext D7 x8).mono (by omega), t8⟩⟩⟩
  · rintro σ H2 ⟨y2, y3, y4, rfl, D2, hT2⟩
    exact q H2
end
end L41

/-! GT: a law that shows things (GR) and whose program makes functions anew (tables of code objects, empty at the start, tracked from there on). -/
namespace GR
open PySem PySem.Spec PyProof.Rows L2
/-- a table without an entry -/
abbrev tab0 : Obj := { cls := .none, data := .fields #[] }
/-- at the law's start: the tables, and the script where it is not a written object -/
def startHp (ts : List Addr) (a : Addr) (own : Bool) (o : Obj) (xs : List V) : Hp := fun b => if b ∈ ts then some (.tbl #[]) else if own = true ∧ b = a then some (.frz o (.lst xs)) else none
section
variable {ts : List Addr} {a b : Addr} {own : Bool} {o : Obj} {xs : List V}
theorem startHp_tab (h : b ∈ ts) : startHp ts a own o xs b = some (.tbl #[]) := if_pos h
theorem startHp_own (h : a ∉ ts) : startHp ts a true o xs a = some (.frz o (.lst xs)) := (if_neg h).trans (if_pos ⟨rfl, rfl⟩)
theorem startHp_cases {u : HO} (h : startHp ts a own o xs b = some u) : (b ∈ ts ∧ u = .tbl #[]) ∨ (b ∉ ts ∧ own = true ∧ b = a ∧ u = .frz o (.lst xs)) := by
  unfold startHp at h
  split at h
  · rename_i hb
    exact .inl ⟨hb, (Option.some.inj h).symm⟩
  · rename_i hb
    split at h
    · rename_i hc
      exact .inr ⟨hb, hc.1, hc.2, (Option.some.inj h).symm⟩
    · cases h
end
theorem law_callGT {P : Program} {w : World} {K : PySem.W.Frag} {mg mb : Str → Option Value} {k : Nat} {fa a : Addr} {cs : List (Addr × Addr)} {fd : FuncData} {x : Str} {sp : Sp} {s₁ : Shared} {vs : List Value} {ns : List Int}
    (KX : K.In s₁.heap) (hns : s₁.heap.Ns mainGlobals mg) (hb : s₁.heap.Ns builtinsNs mb) (hbb : ∀ x : Str, x ≠ "__name__" → mb x = bootBuiltins x) (hlim : s₁.heap.NoLimit) (hg : s₁.gens = #[])
    (hT : ∀ p ∈ cs, s₁.heap.get? p.2 = some tab0) (nT : ∀ p ∈ cs, K.lookup p.2 = none) (hC : ∀ p ∈ cs, PySem.W.codeHdIn K p.1 p.2 = true)
    (hbm : ∃ (bm : Addr) (ob : Obj), mg "__builtins__" = some (.ref bm) ∧ bm ≠ builtinsNs ∧ s₁.heap.get? bm = some ob ∧ ob.cls = .type "module" ∧ ob.dict = some builtinsNs ∧ ob.data = .plain)
    (ha : s₁.heap.get? a = some { cls := .type "list", data := .seq vs.toArray }) (hi : IntsAre vs ns) (hl : ns.length ≤ sizeLine) (hr : Room k callerA)
    (F : ∀ base : Heap, K.In base → base.Ns mainGlobals mg → (∀ p ∈ cs, LamX.TabB base mg p.1 p.2) → FnG P w K mg base CX0 k fa fd [x] sp) (hbind : ∀ (s : Shared) (u : Value), BindsTo s fd ⟨[u], []⟩ [(x, u)])
    (hsp : ∀ H : Hp, (∀ p ∈ cs, H p.2 = some (.tbl #[])) → SqL K H a (ns.map V.int) → sp [.ref a] H (fun v _ => v = .bl true) fun _ _ _ => False) :
    codeAny (model P w) callerA (.call (.ref fa) ⟨[.ref a], []⟩) (fun r s' => r = .ok (.ret (.bool true)) ∧ OldK s₁.heap s'.heap ∧ s'.os = s₁.os ∧ AllBare s'.gens) s₁ := by
  have rv := vals_ints hi
  have tabAt : ∀ {b : Addr}, b ∈ cs.map (·.2) → s₁.heap.get? b = some tab0 := fun {b} hb => by
    obtain ⟨p, hp, rfl⟩ := List.mem_map.mp hb
    exact hT p hp
  have aNot : a ∉ cs.map (·.2) := fun z => by
    have e := tabAt z
    rw [ha] at e
    have e2 : Data.seq vs.toArray _ = Data.fields #[] := congrArg Obj.data (Option.some.inj e)
    cases e2
  -- the tracked heap
  obtain ⟨own, hown, hown2⟩ : ∃ own : Bool, (own = true → K.lookup a = none) ∧ (own = false → ∃ o, K.lookup a = some o) := by
    cases e : K.lookup a with
    | none => exact ⟨true, fun _ => rfl, fun z => by cases z⟩
    | some o => exact ⟨false, (fun z => by cases z), fun _ => ⟨o, rfl⟩⟩
  let so : Obj := { cls := .type "list", data := .seq vs.toArray }
  have hSp : ∃ H : Hp, H = startHp (cs.map (·.2)) a own so (ns.map V.int) := ⟨_, rfl⟩
  obtain ⟨H, hH⟩ := hSp
  have cases_ : ∀ {b : Addr} {u : HO}, H b = some u → (b ∈ cs.map (·.2) ∧ u = .tbl #[]) ∨ (b ∉ cs.map (·.2) ∧ own = true ∧ b = a ∧ u = .frz so (.lst (ns.map V.int))) := fun {b u} e => by
    rw [hH] at e
    exact startHp_cases e
  have htab : ∀ p ∈ cs, H p.2 = some (.tbl #[]) := fun p hp => by
    rw [hH]
    exact startHp_tab (List.mem_map.mpr ⟨p, hp, rfl⟩)
  have hseq : SqL K H a (ns.map V.int) := by
    cases own with
    | true =>
      refine .inl (.inr ⟨so, ?_⟩)
      rw [hH]
      exact startHp_own aNot
    | false =>
      obtain ⟨o, ho⟩ := hown2 rfl
      have e := KX a o ho
      rw [ha] at e
      cases e
      refine .inr ⟨_, vs.toArray, _, ho, rfl, rfl, rfl, ?_, by simpa using rv⟩
      rw [List.size_toArray, hi.length]
      exact hl
  have hok : HOk P w H s₁.heap := fun b u e => by
    rcases cases_ e with ⟨hb, rfl⟩ | ⟨_, _, rfl, rfl⟩
    · exact tabAt hb
    · refine ⟨ha, ?_, vs, _, rv, ha⟩
      rw [List.length_map]
      exact hl
  -- what is not tracked
  have free : ∀ {b : Addr} {o : Obj}, s₁.heap.get? b = some o → (∀ us m, o.data ≠ .seq us m) → o.data ≠ .fields #[] → H b = none := fun {b o} e n1 n2 => by
    cases q : H b with
    | none => rfl
    | some u =>
      rcases cases_ q with ⟨hb, _⟩ | ⟨_, _, rfl, _⟩
      · rw [tabAt hb] at e
        cases e
        exact absurd rfl n2
      · rw [ha] at e
        cases e
        exact absurd rfl (n1 _ _)
  have nsHid : ∀ {b : Addr} {m : Str → Option Value}, s₁.heap.Ns b m → (hidT s₁.heap H).Ns b m := fun {b m} h => by
    obtain ⟨o, es, ep, e, d, r⟩ := h
    refine ns_hid ⟨o, es, ep, e, d, r⟩ (free e (fun us m z => ?_) fun z => ?_)
    · rw [d] at z
      cases z
    · rw [d] at z
      cases z
  have inB : K.In (hidT s₁.heap H) := fun b o e => by
    refine hidT_get (KX b o e) ?_
    cases q : H b with
    | none => rfl
    | some u =>
      rcases cases_ q with ⟨hb, _⟩ | ⟨_, h1, rfl, _⟩
      · obtain ⟨p, hp, rfl⟩ := List.mem_map.mp hb
        rw [nT p hp] at e
        cases e
      · rw [hown h1] at e
        cases e
  have gB := nsHid hns
  have md : Mod K mg (hidT s₁.heap H) := by
    refine ⟨inB, gB, ⟨mb, nsHid hb, hbb⟩, ?_⟩
    obtain ⟨mc, l1, l2⟩ := hlim
    exact ⟨mc, nsHid l1, l2⟩
  have noMain : ∀ p ∈ cs, mainGlobals ≠ p.2 := fun p hp z => by
    obtain ⟨o, es, ep, e, d, _⟩ := hns
    rw [z, hT p hp] at e
    cases e
    cases d
  have tabs : ∀ p ∈ cs, LamX.TabB (hidT s₁.heap H) mg p.1 p.2 := fun p hp => by
    refine NdefX.tabB_of_K inB (hC p hp) ?_ (noMain p hp)
    obtain ⟨bm, ob, b1, b2, b3, b4, b5, b6⟩ := hbm
    refine ⟨bm, ob, b1, b2, fun z => ?_, fun z => ?_, hidT_get b3 (free b3 (fun us m z => ?_) fun z => ?_), b4, b5, b6⟩
    · obtain ⟨o, es, ep, e, d, _⟩ := hns
      rw [z, e] at b3
      cases b3
      rw [d] at b6
      cases b6
    · rw [z, hT p hp] at b3
      cases b3
      cases b6
    · rw [b6] at z
      cases z
    · rw [b6] at z
      cases z
  have start0 : Env0 P w K mg (hidT s₁.heap H) callerA [] s₁ H := by
    constructor
    · rfl
    · exact md
    · exact fun b o e => of_hidT e
    · exact Nat.le_of_eq (hidT_size _ _)
    · trivial
    · intro b hb
      exact absurd (show b ∈ ([] : List Addr) from hb) (by simp)
    · exact hok
    · exact .of_eq hg
  have went := (F _ inB gB tabs).go callerA [] s₁ H ⟨[.ref a], []⟩ [.ref a] [.ref a] (fun v _ => v = .bl true) (fun _ _ _ => False) rfl hr start0 (hbind s₁ (.ref a)) (.cons rfl .nil) (hsp H htab hseq)
  refine codeAny_mono went ?_
  rintro (er | fl) s' h
  · exact False.elim h
  cases fl with
  | next => exact False.elim h
  | brk => exact False.elim h
  | cont => exact False.elim h
  | ret u =>
    obtain ⟨v, H', os, bare, un, ok', rv', q⟩ := h
    cases (show v = .bl true from q)
    cases (show u = Value.bool true from rv')
    have same : ∀ b o, b ∉ cs.map (·.2) → s₁.heap.get? b = some o → s'.heap.get? b = some o := fun b o hb e => by
      cases z : H b with
      | none => exact un.keep b o e z (fun m => absurd (show b ∈ ([] : List Addr) from m) (by simp)) (by simp)
      | some u =>
        rcases cases_ z with ⟨hb', _⟩ | ⟨_, _, rfl, rfl⟩
        · exact absurd hb' hb
        · have e2 := (ok' b _ (un.frzs b so _ z)).1
          rw [ha] at e
          cases e
          exact e2
    have grew : ∀ p ∈ cs, ∃ more : Array Value, s'.heap.get? p.2 = some { cls := .none, data := .fields more } := fun p hp => by
      obtain ⟨more, z⟩ := un.tbls p.2 #[] (htab p hp)
      exact ⟨_, ok' p.2 _ z⟩
    refine ⟨rfl, ⟨fun b o e => ?_, fun b o e => ?_⟩, os, bare⟩
    · by_cases hb : b ∈ cs.map (·.2)
      · obtain ⟨p, hp, rfl⟩ := List.mem_map.mp hb
        obtain ⟨more, hm⟩ := grew p hp
        rw [hT p hp] at e
        cases e
        refine .inr (.inl ⟨((PySem.W.codeHd_of_K KX (hC p hp)).tab (hT p hp)).isCodeTable, rfl, #[], more, rfl, ?_⟩)
        rw [hm, Array.empty_append]
      · exact .inl (same b o hb e)
    · by_cases hb : b ∈ cs.map (·.2)
      · obtain ⟨p, hp, rfl⟩ := List.mem_map.mp hb
        obtain ⟨more, hm⟩ := grew p hp
        exact ⟨_, hm⟩
      · exact ⟨o, same b o hb e⟩
theorem walk_gt {l : PySem.W.OpenLaw} {n k : Nat} {q : Program} {loose : List Str} {XP : (Str → Option Value) → Heap → Prop} {YP : World → Heap → Prop} {d : DefRec} {K : Params → PySem.W.Frag} {cs : List (Addr × Addr)} {sp : PySem.W.Frag → Sp} {x : Str}
    (hn : l.most = some n) (hn2 : n ≤ sizeLine) (hdf : d.params.defaults = []) (hr : Room k callerA)
    (hY : ∀ (w : World) (h : Heap), YP w h → (K w.params).In h) (hT : ∀ (w : World) (h : Heap), YP w h → ∀ p ∈ cs, h.get? p.2 = some tab0)
    (nT : ∀ w : World, ∀ p ∈ cs, (K w.params).lookup p.2 = none) (hC : ∀ w : World, ∀ p ∈ cs, PySem.W.codeHdIn (K w.params) p.1 p.2 = true)
    (F : ∀ (w : World) (mg : Str → Option Value) (fa : Addr) (h : Heap), (K w.params).In h → h.Ns mainGlobals mg → mg d.name = some (.ref fa) →
      ∃ fd : FuncData, (∀ (s : Shared) (u : Value), BindsTo s fd ⟨[u], []⟩ [(x, u)]) ∧
        ∀ base : Heap, (K w.params).In base → base.Ns mainGlobals mg → (∀ p ∈ cs, LamX.TabB base mg p.1 p.2) → FnG l.prog w (K w.params) mg base CX0 k fa fd [x] (sp (K w.params)))
    (hsp : ∀ (K : PySem.W.Frag) (H : Hp) (a : Addr) (ns : List Int), ns.length ≤ n → (∀ p ∈ cs, H p.2 = some (.tbl #[])) → SqL K H a (ns.map V.int) → sp K [.ref a] H (fun v _ => v = .bl true) fun _ _ _ => False) :
    PySem.W.WalkO q loose XP YP l.row.toRowW d [] (fun f vs => PySem.call f vs) := by
  apply Att.attach_call hn hdf
  intro w s₀ s₁ mg mb fa o pm cd doc a vs ns G Y ho hd hcd hmg hobj hints hlen hg
  obtain ⟨fd, bnd, keeps⟩ := F w mg fa _ (hY w _ Y) G.T.g hmg
  exact law_callGT (hY w _ Y) G.T.g G.T.b G.T.builtins G.T.nolimit hg (hT w _ Y) (nT w) (hC w) G.T.bmain hobj hints (Nat.le_trans hlen hn2) hr keeps bnd (fun H => hsp _ H a ns hlen)
end GR

namespace L41
open PySem PySem.Spec PyProof.Rows L2 GR WX TX UA RZ NdefX CLo LamX
/-- a def stands in the text's top -/
def Has (K : PySem.W.Frag) (x : Str) (st : Stmt) : Prop := ∃ (f : Addr) (fd : FuncData), PySem.W.nsIn K mainGlobals x = some (some (.ref f)) ∧ Fun K x x st f fd
theorem has_mk {K : PySem.W.Frag} {x : Str} {st : Stmt} {f : Addr} {oc : Value} {od an : Option Addr} {osl : Array (Option Value)} {kV doc pm cdv ct : Value} (a : PySem.W.nsIn K mainGlobals x = some (some (.ref f)))
    (l : K.lookup f = some ⟨oc, od, .func (PySem.W.fnOf x x (defArgs st) (defBody st) (defScope st) .none kV doc pm an cdv ct), osl⟩) (c : PySem.W.codeIn K cdv x = true) (k : PySem.W.keepIn K (.ref f) = true) : Has K x st := ⟨f, _, a, fun_mk l c k⟩
abbrev TTs (PV PL PW : Addr) : List NdefX.NTab := [(PV, nmV), (PL, nmL), (PW, nmW)]
theorem all3 {α : Type} {p q r : α} {R : α → Prop} (h1 : R p) (h2 : R q) (h3 : R r) : ∀ x ∈ [p, q, r], R x := fun x hx => by
  rcases List.mem_cons.mp hx with rfl | hx
  · exact h1
  rcases List.mem_cons.mp hx with rfl | hx
  · exact h2
  · rw [List.mem_singleton.mp hx]
    exact h3
theorem tts_mk {H : Hp} {cV PV cL PL cW PW : Addr} (h : ∀ p ∈ [(cV, PV), (cL, PL), (cW, PW)], H p.2 = some (.tbl #[])) : NdefX.TabsN (TTs PV PL PW) H := fun p hp => by
  rcases List.mem_cons.mp hp with rfl | hp
  · exact NdefX.TabN.nil (h (cV, PV) List.mem_cons_self)
  rcases List.mem_cons.mp hp with rfl | hp
  · exact NdefX.TabN.nil (h (cL, PL) (List.mem_cons_of_mem _ List.mem_cons_self))
  · rw [List.mem_singleton.mp hp]
    exact NdefX.TabN.nil (h (cW, PW) (List.mem_cons_of_mem _ (List.mem_cons_of_mem _ List.mem_cons_self)))
/-- a method of that name stands in the class at C -/
def HasM (K : PySem.W.Frag) (C : Addr) (m q : Str) (st : Stmt) : Prop := ∃ (f : Addr) (fd : FuncData), Meth K C m f ∧ Fun K m q st f fd
theorem hasM_mk {K : PySem.W.Frag} {C : Addr} {m q : Str} {st : Stmt} {f : Addr} {oc : Value} {od an : Option Addr} {osl : Array (Option Value)} {kV doc pm cdv ct : Value} (a : PySem.W.findIn K (.ref C) m = some (some (.ref f))) (i : PySem.W.isFn K (.ref f) = true)
    (l : K.lookup f = some ⟨oc, od, .func (PySem.W.fnOf m q (defArgs st) (defBody st) (defScope st) .none kV doc pm an cdv ct), osl⟩) (c : PySem.W.codeIn K cdv q = true) (k : PySem.W.keepIn K (.ref f) = true) : HasM K C m q st := ⟨f, _, ⟨a, i, k⟩, fun_mk l c k⟩
theorem wc_mk {K : PySem.W.Frag} {C : Addr} (pg : PySem.W.plainGet K C Str.empty = true) (hd : PySem.W.hasDictIn K C = true) (po : PySem.W.plainOver K C = true) (sa : PySem.W.findIn K (.ref C) "__setattr__" = some (some (.builtin "object.__setattr__"))) (n1 : PySem.W.findIn K (.ref C) "through" = some none) (n2 : PySem.W.findIn K (.ref C) "statements" = some none) (n3 : PySem.W.findIn K (.ref C) "expression" = some none) (n4 : PySem.W.findIn K (.ref C) "reads" = some none) (n5 : PySem.W.findIn K (.ref C) "is_small" = some none) : WC K C := ⟨⟨pg, hd, po, sa⟩, n1, n2, n3, n4, n5⟩
theorem FnG.mono {P : Program} {w : World} {K : PySem.W.Frag} {mg : Str → Option Value} {base : Heap} {CX : CXT} {j k : Nat} {f : Addr} {fd : FuncData} {ps : List Str} {sp : Sp} (F : FnG P w K mg base CX j f fd ps sp) (h : j ≤ k) : FnG P w K mg base CX k f fd ps sp :=
  ⟨F.size, fun A outer s H args us vs Q E hg hr => F.go A outer s H args us vs Q E hg (hr.mono h)⟩
/-- a written tuple of texts -/
def KTx (K : PySem.W.Frag) (p : Addr) (fs : List Str) : Prop := ∀ H, SqT K H p (fs.map V.str)
theorem ktx_mk {K : PySem.W.Frag} {p : Addr} {fs : List Str} {d : Option Addr} {its : Array Value} {n : Nat} {sl : Array (Option Value)} (l : K.lookup p = some ⟨.type "tuple", d, .seq its n, sl⟩) (hv : Vals (fs.map V.str) its.toList) (hs : fs.length ≤ 100) : KTx K p fs := fun H =>
  .inr ⟨_, its, n, l, rfl, rfl, by have h1 := hv.length; rw [List.length_map] at h1; have h2 : its.toList.length = its.size := Array.length_toList ..; exact small_le (by omega), hv⟩
theorem flds_mk {K : PySem.W.Frag} {w : World} {fA : Addr} {es : Array DictEntry} {n : Nat} (l : K.lookup fA = some ⟨.type "dict", none, .dict es n, #[]⟩) (kl : PySem.W.KeysLit w.params es.toList)
    {p0 : Addr} (q0 : PySem.W.nsIn K fA "int" = some (some (.ref p0))) (r0 : KTx K p0 ["value"])
    {p1 : Addr} (q1 : PySem.W.nsIn K fA "var" = some (some (.ref p1))) (r1 : KTx K p1 ["name"])
    {p2 : Addr} (q2 : PySem.W.nsIn K fA "key" = some (some (.ref p2))) (r2 : KTx K p2 [])
    {p3 : Addr} (q3 : PySem.W.nsIn K fA "let" = some (some (.ref p3))) (r3 : KTx K p3 ["position"])
    {p4 : Addr} (q4 : PySem.W.nsIn K fA "cell" = some (some (.ref p4))) (r4 : KTx K p4 ["name", "free", "name"])
    {p5 : Addr} (q5 : PySem.W.nsIn K fA "+" = some (some (.ref p5))) (r5 : KTx K p5 ["free", "free"])
    {p6 : Addr} (q6 : PySem.W.nsIn K fA "-" = some (some (.ref p6))) (r6 : KTx K p6 ["free", "free"])
    {p7 : Addr} (q7 : PySem.W.nsIn K fA "*" = some (some (.ref p7))) (r7 : KTx K p7 ["free", "free"])
    {p8 : Addr} (q8 : PySem.W.nsIn K fA "<" = some (some (.ref p8))) (r8 : KTx K p8 ["free", "free"])
    {p9 : Addr} (q9 : PySem.W.nsIn K fA "=" = some (some (.ref p9))) (r9 : KTx K p9 ["free", "free"])
    {p10 : Addr} (q10 : PySem.W.nsIn K fA "if" = some (some (.ref p10))) (r10 : KTx K p10 ["free", "free", "free"])
    {p11 : Addr} (q11 : PySem.W.nsIn K fA "at" = some (some (.ref p11))) (r11 : KTx K p11 ["free", "bound"])
    {p12 : Addr} (q12 : PySem.W.nsIn K fA "count" = some (some (.ref p12))) (r12 : KTx K p12 ["name", "extra", "bound", "bound"])
    {p13 : Addr} (q13 : PySem.W.nsIn K fA "sum" = some (some (.ref p13))) (r13 : KTx K p13 ["name", "extra", "bound", "bound", "bound"])
    {p14 : Addr} (q14 : PySem.W.nsIn K fA "most" = some (some (.ref p14))) (r14 : KTx K p14 ["name", "extra", "bound", "bound", "bound", "free"])
    {p15 : Addr} (q15 : PySem.W.nsIn K fA "first" = some (some (.ref p15))) (r15 : KTx K p15 ["name", "extra", "bound", "bound", "free"])
    : Flds K w fA := by
  intro wd fs h
  simp only [table, List.mem_cons, List.not_mem_nil, or_false, Prod.mk.injEq] at h
  rcases h with ⟨rfl, rfl⟩ | ⟨rfl, rfl⟩ | ⟨rfl, rfl⟩ | ⟨rfl, rfl⟩ | ⟨rfl, rfl⟩ | ⟨rfl, rfl⟩ | ⟨rfl, rfl⟩ | ⟨rfl, rfl⟩ | ⟨rfl, rfl⟩ | ⟨rfl, rfl⟩ | ⟨rfl, rfl⟩ | ⟨rfl, rfl⟩ | ⟨rfl, rfl⟩ | ⟨rfl, rfl⟩ | ⟨rfl, rfl⟩ | ⟨rfl, rfl⟩
  · exact ⟨p0, ⟨es, n, _, l, kl, q0, rfl⟩, r0⟩
  · exact ⟨p1, ⟨es, n, _, l, kl, q1, rfl⟩, r1⟩
  · exact ⟨p2, ⟨es, n, _, l, kl, q2, rfl⟩, r2⟩
  · exact ⟨p3, ⟨es, n, _, l, kl, q3, rfl⟩, r3⟩
  · exact ⟨p4, ⟨es, n, _, l, kl, q4, rfl⟩, r4⟩
  · exact ⟨p5, ⟨es, n, _, l, kl, q5, rfl⟩, r5⟩
  · exact ⟨p6, ⟨es, n, _, l, kl, q6, rfl⟩, r6⟩
  · exact ⟨p7, ⟨es, n, _, l, kl, q7, rfl⟩, r7⟩
  · exact ⟨p8, ⟨es, n, _, l, kl, q8, rfl⟩, r8⟩
  · exact ⟨p9, ⟨es, n, _, l, kl, q9, rfl⟩, r9⟩
  · exact ⟨p10, ⟨es, n, _, l, kl, q10, rfl⟩, r10⟩
  · exact ⟨p11, ⟨es, n, _, l, kl, q11, rfl⟩, r11⟩
  · exact ⟨p12, ⟨es, n, _, l, kl, q12, rfl⟩, r12⟩
  · exact ⟨p13, ⟨es, n, _, l, kl, q13, rfl⟩, r13⟩
  · exact ⟨p14, ⟨es, n, _, l, kl, q14, rfl⟩, r14⟩
  · exact ⟨p15, ⟨es, n, _, l, kl, q15, rfl⟩, r15⟩
/-- a def of the top whose code object is known -/
def HasC (K : PySem.W.Frag) (x : Str) (st : Stmt) (c : Addr) : Prop := ∃ (f : Addr) (fd : FuncData), PySem.W.nsIn K mainGlobals x = some (some (.ref f)) ∧ CLo.FunC K x x st f fd c
theorem has_mkC {K : PySem.W.Frag} {x : Str} {st : Stmt} {f c : Addr} {oc : Value} {od an : Option Addr} {osl : Array (Option Value)} {kV doc pm ct : Value} (a : PySem.W.nsIn K mainGlobals x = some (some (.ref f)))
    (l : K.lookup f = some ⟨oc, od, .func (PySem.W.fnOf x x (defArgs st) (defBody st) (defScope st) .none kV doc pm an (.ref c) ct), osl⟩) (cc : PySem.W.codeIn K (.ref c) x = true) (k : PySem.W.keepIn K (.ref f) = true) : HasC K x st c := ⟨f, _, a, ⟨⟨oc, od, kV, doc, pm, an, ct, osl, rfl, l, cc⟩, k⟩⟩
theorem all_mk {P : Program} {w : World} {K : PySem.W.Frag} {h : Heap} {mg : Str → Option Value} {fa : Addr} {cV PV cL PL cW PW : Addr} (hne : PV ≠ PL ∧ PV ≠ PW ∧ PL ≠ PW) (X : K.In h) (G : h.Ns mainGlobals mg) (hfa : mg "law" = some (.ref fa))
    (X_contained : Has K "contained" s_contained)
    (X_contained_of : Has K "contained_of" s_contained_of)
    (X_with_contained_of : Has K "with_contained_of" s_with_contained_of)
    (X_folded : Has K "folded" s_folded)
    (X_one_deeper : Has K "one_deeper" s_one_deeper)
    (X_all_parts : Has K "all_parts" s_all_parts)
    (X_rows_of : Has K "rows_of" s_rows_of)
    (X_columns_of : Has K "columns_of" s_columns_of)
    (X_with_variables : HasC K "with_variables" s_with_variables cV)
    (X_statements_of : Has K "statements_of" s_statements_of)
    (X_start_of : Has K "start_of" s_start_of)
    (X_lets_at : Has K "lets_at" s_lets_at)
    (X_slot_expression : Has K "slot_expression" s_slot_expression)
    (X_with_lets : Has K "with_lets" s_with_lets)
    (X_column_of : Has K "column_of" s_column_of)
    (X_led : Has K "led" s_led)
    (X_led_back : Has K "led_back" s_led_back)
    (X_read_by : Has K "read_by" s_read_by)
    (X_is_too_large : Has K "is_too_large" s_is_too_large)
    (X_led_over : Has K "led_over" s_led_over)
    (X_slot_led_to : Has K "slot_led_to" s_slot_led_to)
    (X_led_over_let : HasC K "led_over_let" s_led_over_let cL)
    (X_led_over_writer : HasC K "led_over_writer" s_led_over_writer cW)
    (X_cell_behind : Has K "cell_behind" s_cell_behind)
    (X_keys_added : Has K "keys_added" s_keys_added)
    (X_law_deck : Has K "_law_deck" s_law_deck)
    (X_law_draw : Has K "_law_draw" s_law_draw)
    (X_law_pick : Has K "_law_pick" s_law_pick)
    (X_law_names : Has K "_law_names" s_law_names)
    (X_law_world : Has K "_law_world" s_law_world)
    (X_law_number : Has K "_law_number" s_law_number)
    (X_law_cell : Has K "_law_cell" s_law_cell)
    (X_law_leaf : Has K "_law_leaf" s_law_leaf)
    (X_law_aggregate : Has K "_law_aggregate" s_law_aggregate)
    (X_law_expression : Has K "_law_expression" s_law_expression)
    (X_law_statement : Has K "_law_statement" s_law_statement)
    (X_law_transaction : Has K "_law_transaction" s_law_transaction)
    (X_law_made : Has K "_law_made" s_law_made)
    (X_law_closed : Has K "_law_closed" s_law_closed)
    (X_law_rows : Has K "_law_rows" s_law_rows)
    (X_law_led_cell : Has K "_law_led_cell" s_law_led_cell)
    (X_law_led : Has K "_law_led" s_law_led)
    (X_law_inner : Has K "_law_inner" s_law_inner)
    (X_law_size : Has K "_law_size" s_law_size)
    (X_law_step_right : Has K "_law_step_right" s_law_step_right)
    (X_law_right : Has K "_law_right" s_law_right)
    (X_law : Has K "law" s_law)
    (z_list : PySem.W.nsIn K mainGlobals "list" = some none) (z_sum : PySem.W.nsIn K mainGlobals "sum" = some none) (z_len : PySem.W.nsIn K mainGlobals "len" = some none) (z_range : PySem.W.nsIn K mainGlobals "range" = some none) (z_repr : PySem.W.nsIn K mainGlobals "repr" = some none) (z_tuple : PySem.W.nsIn K mainGlobals "tuple" = some none) (z_max : PySem.W.nsIn K mainGlobals "max" = some none) (z_sorted : PySem.W.nsIn K mainGlobals "sorted" = some none) (z_zip : PySem.W.nsIn K mainGlobals "zip" = some none) (z_isinstance : PySem.W.nsIn K mainGlobals "isinstance" = some none) (z_enumerate : PySem.W.nsIn K mainGlobals "enumerate" = some none) (z_reversed : PySem.W.nsIn K mainGlobals "reversed" = some none)
    {tk_MOST_PARTS : Tok} (c_MOST_PARTS : PySem.W.nsIn K mainGlobals "MOST_PARTS" = some (some (.int 2000 tk_MOST_PARTS))) {tk_DEEPEST : Tok} (c_DEEPEST : PySem.W.nsIn K mainGlobals "DEEPEST" = some (some (.int 100 tk_DEEPEST)))
    {fA : Addr} (z_FIELDS : PySem.W.nsIn K mainGlobals "FIELDS" = some (some (.ref fA))) (T_FIELDS : Flds K w fA) {aA : Addr} (z_ALL : PySem.W.nsIn K mainGlobals "ALL_PARTS" = some (some (.ref aA))) (T_ALL : KTx K aA W2) {aG : Addr} (z_AGG : PySem.W.nsIn K mainGlobals "AGGREGATES" = some (some (.ref aG))) (T_AGG : KTx K aG aggW) {aK : Addr} (z_KEY : PySem.W.nsIn K mainGlobals "KEY" = some (some (.ref aK))) (T_KEY : KTx K aK ["key"])
    {C_W : Addr} (a_W : PySem.W.nsIn K mainGlobals "Way" = some (some (.ref C_W))) (T_W : WC K C_W) (mk_W : PySem.W.makesIn K C_W = true) (kc_W : PySem.W.keepIn K (.ref C_W) = true)
    (Y_Mi : HasM K C_W "__init__" "Way.__init__" s_winit) (Y_Ms : HasM K C_W "step_to" "Way.step_to" s_step_to) (Y_Mc : HasM K C_W "is_changed_by" "Way.is_changed_by" s_is_changed_by)
    : ∃ fd : FuncData, (∀ (s : Shared) (v : Value), BindsTo s fd ⟨[v], []⟩ [("_law_script", v)]) ∧ ∀ base : Heap, K.In base → base.Ns mainGlobals mg → (∀ p ∈ [(cV, PV), (cL, PL), (cW, PW)], LamX.TabB base mg p.1 p.2) → FnG P w K mg base CX0 75 fa fd ["_law_script"] (sp_law K (TTs PV PL PW)) := by
  obtain ⟨fcontained, dcontained, acontained, Fcontained⟩ := X_contained
  have gcontained := PySem.W.mg_of X G acontained
  have bcontained : Binds K dcontained ["expression"] [] := Fcontained.binds (ps := ["expression"]) fun _ _ _ _ _ _ us hl => match us, hl with | [_], _ => rfl
  obtain ⟨fcontained_of, dcontained_of, acontained_of, Fcontained_of⟩ := X_contained_of
  have gcontained_of := PySem.W.mg_of X G acontained_of
  have bcontained_of : Binds K dcontained_of ["expression", "wanted"] [] := Fcontained_of.binds (ps := ["expression", "wanted"]) fun _ _ _ _ _ _ us hl => match us, hl with | [_, _], _ => rfl
  obtain ⟨fwith_contained_of, dwith_contained_of, awith_contained_of, Fwith_contained_of⟩ := X_with_contained_of
  have gwith_contained_of := PySem.W.mg_of X G awith_contained_of
  have bwith_contained_of : Binds K dwith_contained_of ["expression", "wanted", "parts"] [] := Fwith_contained_of.binds (ps := ["expression", "wanted", "parts"]) fun _ _ _ _ _ _ us hl => match us, hl with | [_, _, _], _ => rfl
  obtain ⟨ffolded, dfolded, afolded, Ffolded⟩ := X_folded
  have gfolded := PySem.W.mg_of X G afolded
  have bfolded : Binds K dfolded ["expression", "wanted", "made"] [] := Ffolded.binds (ps := ["expression", "wanted", "made"]) fun _ _ _ _ _ _ us hl => match us, hl with | [_, _, _], _ => rfl
  obtain ⟨fone_deeper, done_deeper, aone_deeper, Fone_deeper⟩ := X_one_deeper
  have gone_deeper := PySem.W.mg_of X G aone_deeper
  have bone_deeper : Binds K done_deeper ["expressions"] [] := Fone_deeper.binds (ps := ["expressions"]) fun _ _ _ _ _ _ us hl => match us, hl with | [_], _ => rfl
  obtain ⟨fall_parts, dall_parts, aall_parts, Fall_parts⟩ := X_all_parts
  have gall_parts := PySem.W.mg_of X G aall_parts
  have ball_parts : Binds K dall_parts ["expression"] [] := Fall_parts.binds (ps := ["expression"]) fun _ _ _ _ _ _ us hl => match us, hl with | [_], _ => rfl
  obtain ⟨frows_of, drows_of, arows_of, Frows_of⟩ := X_rows_of
  have grows_of := PySem.W.mg_of X G arows_of
  have brows_of : Binds K drows_of ["table"] [] := Frows_of.binds (ps := ["table"]) fun _ _ _ _ _ _ us hl => match us, hl with | [_], _ => rfl
  obtain ⟨fcolumns_of, dcolumns_of, acolumns_of, Fcolumns_of⟩ := X_columns_of
  have gcolumns_of := PySem.W.mg_of X G acolumns_of
  have bcolumns_of : Binds K dcolumns_of ["expression"] [] := Fcolumns_of.binds (ps := ["expression"]) fun _ _ _ _ _ _ us hl => match us, hl with | [_], _ => rfl
  obtain ⟨fwith_variables, dwith_variables, awith_variables, Fwith_variables⟩ := X_with_variables
  have gwith_variables := PySem.W.mg_of X G awith_variables
  have bwith_variables : Binds K dwith_variables ["expression", "others"] [] := Fwith_variables.fun.binds (ps := ["expression", "others"]) fun _ _ _ _ _ _ us hl => match us, hl with | [_, _], _ => rfl
  obtain ⟨fstatements_of, dstatements_of, astatements_of, Fstatements_of⟩ := X_statements_of
  have gstatements_of := PySem.W.mg_of X G astatements_of
  have bstatements_of : Binds K dstatements_of ["log"] [] := Fstatements_of.binds (ps := ["log"]) fun _ _ _ _ _ _ us hl => match us, hl with | [_], _ => rfl
  obtain ⟨fstart_of, dstart_of, astart_of, Fstart_of⟩ := X_start_of
  have gstart_of := PySem.W.mg_of X G astart_of
  have bstart_of : Binds K dstart_of ["marks", "position"] [] := Fstart_of.binds (ps := ["marks", "position"]) fun _ _ _ _ _ _ us hl => match us, hl with | [_, _], _ => rfl
  obtain ⟨flets_at, dlets_at, alets_at, Flets_at⟩ := X_lets_at
  have glets_at := PySem.W.mg_of X G alets_at
  have blets_at : Binds K dlets_at ["log", "position"] [] := Flets_at.binds (ps := ["log", "position"]) fun _ _ _ _ _ _ us hl => match us, hl with | [_, _], _ => rfl
  obtain ⟨fslot_expression, dslot_expression, aslot_expression, Fslot_expression⟩ := X_slot_expression
  have gslot_expression := PySem.W.mg_of X G aslot_expression
  have bslot_expression : Binds K dslot_expression ["statement", "word"] [] := Fslot_expression.binds (ps := ["statement", "word"]) fun _ _ _ _ _ _ us hl => match us, hl with | [_, _], _ => rfl
  obtain ⟨fwith_lets, dwith_lets, awith_lets, Fwith_lets⟩ := X_with_lets
  have gwith_lets := PySem.W.mg_of X G awith_lets
  have bwith_lets : Binds K dwith_lets ["log", "expression", "position"] [] := Fwith_lets.binds (ps := ["log", "expression", "position"]) fun _ _ _ _ _ _ us hl => match us, hl with | [_, _, _], _ => rfl
  obtain ⟨fcolumn_of, dcolumn_of, acolumn_of, Fcolumn_of⟩ := X_column_of
  have gcolumn_of := PySem.W.mg_of X G acolumn_of
  have bcolumn_of : Binds K dcolumn_of ["statement"] [] := Fcolumn_of.binds (ps := ["statement"]) fun _ _ _ _ _ _ us hl => match us, hl with | [_], _ => rfl
  obtain ⟨fled, dled, aled, Fled⟩ := X_led
  have gled := PySem.W.mg_of X G aled
  have bled : Binds K dled ["log", "expression", "position"] [] := Fled.binds (ps := ["log", "expression", "position"]) fun _ _ _ _ _ _ us hl => match us, hl with | [_, _, _], _ => rfl
  obtain ⟨fled_back, dled_back, aled_back, Fled_back⟩ := X_led_back
  have gled_back := PySem.W.mg_of X G aled_back
  have bled_back : Binds K dled_back ["log", "expression", "position", "cut"] [] := Fled_back.binds (ps := ["log", "expression", "position", "cut"]) fun _ _ _ _ _ _ us hl => match us, hl with | [_, _, _, _], _ => rfl
  obtain ⟨fread_by, dread_by, aread_by, Fread_by⟩ := X_read_by
  have gread_by := PySem.W.mg_of X G aread_by
  have bread_by : Binds K dread_by ["expression"] [] := Fread_by.binds (ps := ["expression"]) fun _ _ _ _ _ _ us hl => match us, hl with | [_], _ => rfl
  obtain ⟨fis_too_large, dis_too_large, ais_too_large, Fis_too_large⟩ := X_is_too_large
  have gis_too_large := PySem.W.mg_of X G ais_too_large
  have bis_too_large : Binds K dis_too_large ["expression"] [] := Fis_too_large.binds (ps := ["expression"]) fun _ _ _ _ _ _ us hl => match us, hl with | [_], _ => rfl
  obtain ⟨fled_over, dled_over, aled_over, Fled_over⟩ := X_led_over
  have gled_over := PySem.W.mg_of X G aled_over
  have bled_over : Binds K dled_over ["log", "expression", "position", "statement"] [] := Fled_over.binds (ps := ["log", "expression", "position", "statement"]) fun _ _ _ _ _ _ us hl => match us, hl with | [_, _, _, _], _ => rfl
  obtain ⟨fslot_led_to, dslot_led_to, aslot_led_to, Fslot_led_to⟩ := X_slot_led_to
  have gslot_led_to := PySem.W.mg_of X G aslot_led_to
  have bslot_led_to : Binds K dslot_led_to ["log", "position", "statement", "word"] [] := Fslot_led_to.binds (ps := ["log", "position", "statement", "word"]) fun _ _ _ _ _ _ us hl => match us, hl with | [_, _, _, _], _ => rfl
  obtain ⟨fled_over_let, dled_over_let, aled_over_let, Fled_over_let⟩ := X_led_over_let
  have gled_over_let := PySem.W.mg_of X G aled_over_let
  have bled_over_let : Binds K dled_over_let ["expression", "position", "other"] [] := Fled_over_let.fun.binds (ps := ["expression", "position", "other"]) fun _ _ _ _ _ _ us hl => match us, hl with | [_, _, _], _ => rfl
  obtain ⟨fled_over_writer, dled_over_writer, aled_over_writer, Fled_over_writer⟩ := X_led_over_writer
  have gled_over_writer := PySem.W.mg_of X G aled_over_writer
  have bled_over_writer : Binds K dled_over_writer ["log", "expression", "position", "statement"] [] := Fled_over_writer.fun.binds (ps := ["log", "expression", "position", "statement"]) fun _ _ _ _ _ _ us hl => match us, hl with | [_, _, _, _], _ => rfl
  obtain ⟨fcell_behind, dcell_behind, acell_behind, Fcell_behind⟩ := X_cell_behind
  have gcell_behind := PySem.W.mg_of X G acell_behind
  have bcell_behind : Binds K dcell_behind ["log", "position", "statement"] [] := Fcell_behind.binds (ps := ["log", "position", "statement"]) fun _ _ _ _ _ _ us hl => match us, hl with | [_, _, _], _ => rfl
  obtain ⟨fkeys_added, dkeys_added, akeys_added, Fkeys_added⟩ := X_keys_added
  have gkeys_added := PySem.W.mg_of X G akeys_added
  have bkeys_added : Binds K dkeys_added ["log", "position", "statement"] [] := Fkeys_added.binds (ps := ["log", "position", "statement"]) fun _ _ _ _ _ _ us hl => match us, hl with | [_, _, _], _ => rfl
  obtain ⟨f_law_deck, d_law_deck, a_law_deck, F_law_deck⟩ := X_law_deck
  have g_law_deck := PySem.W.mg_of X G a_law_deck
  have b_law_deck : Binds K d_law_deck ["_law_script"] [] := F_law_deck.binds (ps := ["_law_script"]) fun _ _ _ _ _ _ us hl => match us, hl with | [_], _ => rfl
  obtain ⟨f_law_draw, d_law_draw, a_law_draw, F_law_draw⟩ := X_law_draw
  have g_law_draw := PySem.W.mg_of X G a_law_draw
  have b_law_draw : Binds K d_law_draw ["_law_deck_here", "_law_most"] [] := F_law_draw.binds (ps := ["_law_deck_here", "_law_most"]) fun _ _ _ _ _ _ us hl => match us, hl with | [_, _], _ => rfl
  obtain ⟨f_law_pick, d_law_pick, a_law_pick, F_law_pick⟩ := X_law_pick
  have g_law_pick := PySem.W.mg_of X G a_law_pick
  have b_law_pick : Binds K d_law_pick ["_law_deck_here", "_law_some"] [] := F_law_pick.binds (ps := ["_law_deck_here", "_law_some"]) fun _ _ _ _ _ _ us hl => match us, hl with | [_, _], _ => rfl
  obtain ⟨f_law_names, d_law_names, a_law_names, F_law_names⟩ := X_law_names
  have g_law_names := PySem.W.mg_of X G a_law_names
  have b_law_names : Binds K d_law_names ["_law_deck_here", "_law_many"] [] := F_law_names.binds (ps := ["_law_deck_here", "_law_many"]) fun _ _ _ _ _ _ us hl => match us, hl with | [_, _], _ => rfl
  obtain ⟨f_law_world, d_law_world, a_law_world, F_law_world⟩ := X_law_world
  have g_law_world := PySem.W.mg_of X G a_law_world
  have b_law_world : Binds K d_law_world ["_law_deck_here"] [] := F_law_world.binds (ps := ["_law_deck_here"]) fun _ _ _ _ _ _ us hl => match us, hl with | [_], _ => rfl
  obtain ⟨f_law_number, d_law_number, a_law_number, F_law_number⟩ := X_law_number
  have g_law_number := PySem.W.mg_of X G a_law_number
  have b_law_number : Binds K d_law_number ["_law_deck_here", "_law_world_here"] [] := F_law_number.binds (ps := ["_law_deck_here", "_law_world_here"]) fun _ _ _ _ _ _ us hl => match us, hl with | [_, _], _ => rfl
  obtain ⟨f_law_cell, d_law_cell, a_law_cell, F_law_cell⟩ := X_law_cell
  have g_law_cell := PySem.W.mg_of X G a_law_cell
  have b_law_cell : Binds K d_law_cell ["_law_table", "_law_key", "_law_column"] [] := F_law_cell.binds (ps := ["_law_table", "_law_key", "_law_column"]) fun _ _ _ _ _ _ us hl => match us, hl with | [_, _, _], _ => rfl
  obtain ⟨f_law_leaf, d_law_leaf, a_law_leaf, F_law_leaf⟩ := X_law_leaf
  have g_law_leaf := PySem.W.mg_of X G a_law_leaf
  have b_law_leaf : Binds K d_law_leaf ["_law_deck_here", "_law_world_here", "_law_scope", "_law_loose"] [] := F_law_leaf.binds (ps := ["_law_deck_here", "_law_world_here", "_law_scope", "_law_loose"]) fun _ _ _ _ _ _ us hl => match us, hl with | [_, _, _, _], _ => rfl
  obtain ⟨f_law_aggregate, d_law_aggregate, a_law_aggregate, F_law_aggregate⟩ := X_law_aggregate
  have g_law_aggregate := PySem.W.mg_of X G a_law_aggregate
  have b_law_aggregate : Binds K d_law_aggregate ["_law_deck_here", "_law_world_here", "_law_deep", "_law_scope"] [] := F_law_aggregate.binds (ps := ["_law_deck_here", "_law_world_here", "_law_deep", "_law_scope"]) fun _ _ _ _ _ _ us hl => match us, hl with | [_, _, _, _], _ => rfl
  obtain ⟨f_law_expression, d_law_expression, a_law_expression, F_law_expression⟩ := X_law_expression
  have g_law_expression := PySem.W.mg_of X G a_law_expression
  have b_law_expression : Binds K d_law_expression ["_law_deck_here", "_law_world_here", "_law_deep", "_law_scope", "_law_loose"] [] := F_law_expression.binds (ps := ["_law_deck_here", "_law_world_here", "_law_deep", "_law_scope", "_law_loose"]) fun _ _ _ _ _ _ us hl => match us, hl with | [_, _, _, _, _], _ => rfl
  obtain ⟨f_law_statement, d_law_statement, a_law_statement, F_law_statement⟩ := X_law_statement
  have g_law_statement := PySem.W.mg_of X G a_law_statement
  have b_law_statement : Binds K d_law_statement ["_law_deck_here", "_law_world_here", "_law_scope", "_law_deep"] [] := F_law_statement.binds (ps := ["_law_deck_here", "_law_world_here", "_law_scope", "_law_deep"]) fun _ _ _ _ _ _ us hl => match us, hl with | [_, _, _, _], _ => rfl
  obtain ⟨f_law_transaction, d_law_transaction, a_law_transaction, F_law_transaction⟩ := X_law_transaction
  have g_law_transaction := PySem.W.mg_of X G a_law_transaction
  have b_law_transaction : Binds K d_law_transaction ["_law_deck_here", "_law_world_here", "_law_most", "_law_deep"] [] := F_law_transaction.binds (ps := ["_law_deck_here", "_law_world_here", "_law_most", "_law_deep"]) fun _ _ _ _ _ _ us hl => match us, hl with | [_, _, _, _], _ => rfl
  obtain ⟨f_law_made, d_law_made, a_law_made, F_law_made⟩ := X_law_made
  have g_law_made := PySem.W.mg_of X G a_law_made
  have b_law_made : Binds K d_law_made ["_law_deck_here", "_law_world_here", "_law_many", "_law_most"] [] := F_law_made.binds (ps := ["_law_deck_here", "_law_world_here", "_law_many", "_law_most"]) fun _ _ _ _ _ _ us hl => match us, hl with | [_, _, _, _], _ => rfl
  obtain ⟨f_law_closed, d_law_closed, a_law_closed, F_law_closed⟩ := X_law_closed
  have g_law_closed := PySem.W.mg_of X G a_law_closed
  have b_law_closed : Binds K d_law_closed ["_law_thing", "_law_lets"] [] := F_law_closed.binds (ps := ["_law_thing", "_law_lets"]) fun _ _ _ _ _ _ us hl => match us, hl with | [_, _], _ => rfl
  obtain ⟨f_law_rows, d_law_rows, a_law_rows, F_law_rows⟩ := X_law_rows
  have g_law_rows := PySem.W.mg_of X G a_law_rows
  have b_law_rows : Binds K d_law_rows ["_law_made_here"] [] := F_law_rows.binds (ps := ["_law_made_here"]) fun _ _ _ _ _ _ us hl => match us, hl with | [_], _ => rfl
  obtain ⟨f_law_led_cell, d_law_led_cell, a_law_led_cell, F_law_led_cell⟩ := X_law_led_cell
  have g_law_led_cell := PySem.W.mg_of X G a_law_led_cell
  have b_law_led_cell : Binds K d_law_led_cell ["_law_row", "_law_thing", "_law_key"] [] := F_law_led_cell.binds (ps := ["_law_row", "_law_thing", "_law_key"]) fun _ _ _ _ _ _ us hl => match us, hl with | [_, _, _], _ => rfl
  obtain ⟨f_law_led, d_law_led, a_law_led, F_law_led⟩ := X_law_led
  have g_law_led := PySem.W.mg_of X G a_law_led
  have b_law_led : Binds K d_law_led ["_law_rows_here", "_law_thing", "_law_p"] [] := F_law_led.binds (ps := ["_law_rows_here", "_law_thing", "_law_p"]) fun _ _ _ _ _ _ us hl => match us, hl with | [_, _, _], _ => rfl
  obtain ⟨f_law_inner, d_law_inner, a_law_inner, F_law_inner⟩ := X_law_inner
  have g_law_inner := PySem.W.mg_of X G a_law_inner
  have b_law_inner : Binds K d_law_inner ["_law_thing"] [] := F_law_inner.binds (ps := ["_law_thing"]) fun _ _ _ _ _ _ us hl => match us, hl with | [_], _ => rfl
  obtain ⟨f_law_size, d_law_size, a_law_size, F_law_size⟩ := X_law_size
  have g_law_size := PySem.W.mg_of X G a_law_size
  have b_law_size : Binds K d_law_size ["_law_thing"] [] := F_law_size.binds (ps := ["_law_thing"]) fun _ _ _ _ _ _ us hl => match us, hl with | [_], _ => rfl
  obtain ⟨f_law_step_right, d_law_step_right, a_law_step_right, F_law_step_right⟩ := X_law_step_right
  have g_law_step_right := PySem.W.mg_of X G a_law_step_right
  have b_law_step_right : Binds K d_law_step_right ["_law_made_here", "_law_thing", "_law_place", "_law_due"] [] := F_law_step_right.binds (ps := ["_law_made_here", "_law_thing", "_law_place", "_law_due"]) fun _ _ _ _ _ _ us hl => match us, hl with | [_, _, _, _], _ => rfl
  obtain ⟨f_law_right, d_law_right, a_law_right, F_law_right⟩ := X_law_right
  have g_law_right := PySem.W.mg_of X G a_law_right
  have b_law_right : Binds K d_law_right ["_law_made_here", "_law_thing"] [] := F_law_right.binds (ps := ["_law_made_here", "_law_thing"]) fun _ _ _ _ _ _ us hl => match us, hl with | [_, _], _ => rfl
  obtain ⟨f_law0, d_law0, a_law0, F_law0⟩ := X_law
  have e := hfa.symm.trans (PySem.W.mg_of X G a_law0)
  cases e
  have mlist := PySem.W.mg_none_of X G z_list
  have msum := PySem.W.mg_none_of X G z_sum
  have mlen := PySem.W.mg_none_of X G z_len
  have mrange := PySem.W.mg_none_of X G z_range
  have mrepr := PySem.W.mg_none_of X G z_repr
  have mtuple := PySem.W.mg_none_of X G z_tuple
  have mmax := PySem.W.mg_none_of X G z_max
  have msorted := PySem.W.mg_none_of X G z_sorted
  have mzip := PySem.W.mg_none_of X G z_zip
  have misinstance := PySem.W.mg_none_of X G z_isinstance
  have menumerate := PySem.W.mg_none_of X G z_enumerate
  have mreversed := PySem.W.mg_none_of X G z_reversed
  have mMOST_PARTS := PySem.W.mg_of X G c_MOST_PARTS
  have mDEEPEST := PySem.W.mg_of X G c_DEEPEST
  have mFIELDS := PySem.W.mg_of X G z_FIELDS
  have mALL := PySem.W.mg_of X G z_ALL
  have mAGG := PySem.W.mg_of X G z_AGG
  have mKEY := PySem.W.mg_of X G z_KEY
  obtain ⟨fMi, dMi, MMi, FMi⟩ := Y_Mi
  have bMi : Binds K dMi ["self", "log", "expression"] [] := FMi.binds (ps := ["self", "log", "expression"]) fun _ _ _ _ _ _ us hl => match us, hl with | [_, _, _], _ => rfl
  obtain ⟨fMs, dMs, MMs, FMs⟩ := Y_Ms
  have bMs : Binds K dMs ["self", "place"] [] := FMs.binds (ps := ["self", "place"]) fun _ _ _ _ _ _ us hl => match us, hl with | [_, _], _ => rfl
  obtain ⟨fMc, dMc, MMc, FMc⟩ := Y_Mc
  have bMc : Binds K dMc ["self", "place", "statement"] [] := FMc.binds (ps := ["self", "place", "statement"]) fun _ _ _ _ _ _ us hl => match us, hl with | [_, _, _], _ => rfl
  have M_W : Mk K C_W fMi := ⟨mk_W, MMi.at_, MMi.fn, kc_W⟩
  obtain ⟨oc, od, kV, doc, pm, an, cdv, ct, osl, hfd, _, _⟩ := F_law0.ex
  refine ⟨d_law0, fun s v => ?_, fun base _ _ TB => ?_⟩
  · subst hfd
    exact .of_eq rfl
  · have TBV := TB (cV, PV) List.mem_cons_self
    have TBL := TB (cL, PL) (List.mem_cons_of_mem _ List.mem_cons_self)
    have TBW := TB (cW, PW) (List.mem_cons_of_mem _ (List.mem_cons_of_mem _ List.mem_cons_self))
    have hmV : ((PV, nmV) : NdefX.NTab) ∈ TTs PV PL PW := List.mem_cons_self
    have hmL : ((PL, nmL) : NdefX.NTab) ∈ TTs PV PL PW := List.mem_cons_of_mem _ List.mem_cons_self
    have hmW : ((PW, nmW) : NdefX.NTab) ∈ TTs PV PL PW := List.mem_cons_of_mem _ (List.mem_cons_of_mem _ List.mem_cons_self)
    have huV : ∀ p ∈ TTs PV PL PW, p.1 = PV → p.2 = nmV := all3 (fun _ => rfl) (fun e => absurd e.symm hne.1) (fun e => absurd e.symm hne.2.1)
    have huL : ∀ p ∈ TTs PV PL PW, p.1 = PL → p.2 = nmL := all3 (fun e => absurd e hne.1) (fun _ => rfl) (fun e => absurd e.symm hne.2.2)
    have huW : ∀ p ∈ TTs PV PL PW, p.1 = PW → p.2 = nmW := all3 (fun e => absurd e hne.2.1) (fun e => absurd e hne.2.2) (fun _ => rfl)
    have Gdraw := ok_draw (P := P) (w := w) (mg := mg) (base := base) (k := 0) F_law_draw
    have Gpick := ok_pick (k := 1) F_law_pick Gdraw g_law_draw F_law_draw.kp b_law_draw mlen
    have Gnames := ok_names (k := 2) F_law_names (Gdraw.mono (by decide)) g_law_draw F_law_draw.kp b_law_draw Gpick g_law_pick F_law_pick.kp b_law_pick mrange mlen
    have Gworld := ok_world (k := 3) F_law_world (Gdraw.mono (by decide)) g_law_draw F_law_draw.kp b_law_draw Gnames g_law_names F_law_names.kp b_law_names mrange
    have Gdeck := ok_deck (P := P) (w := w) (mg := mg) (base := base) (k := 0) F_law_deck mlist msum mlen
    have Gint := ok_integer (k := 2) F_law_number (Gdraw.mono (by decide)) g_law_draw F_law_draw.kp b_law_draw Gpick g_law_pick F_law_pick.kp b_law_pick
    have Gcell := ok_cell (P := P) (w := w) (mg := mg) (base := base) (k := 0) F_law_cell
    have Gleaf := ok_leaf (k := 3) F_law_leaf (Gdraw.mono (by decide)) g_law_draw F_law_draw.kp b_law_draw (Gpick.mono (by decide)) g_law_pick F_law_pick.kp b_law_pick Gint g_law_number F_law_number.kp b_law_number
    have Gex := ok_exprs (k := 4) F_law_expression F_law_aggregate (Gdraw.mono (by decide)) g_law_draw F_law_draw.kp b_law_draw (Gpick.mono (by decide)) g_law_pick F_law_pick.kp b_law_pick Gleaf g_law_leaf F_law_leaf.kp b_law_leaf (Gcell.mono (by decide)) g_law_cell F_law_cell.kp b_law_cell g_law_aggregate F_law_aggregate.kp b_law_aggregate g_law_expression F_law_expression.kp b_law_expression mmax 3
    have Gst := ok_stmt (k := 11) F_law_statement (Gdraw.mono (by decide)) g_law_draw F_law_draw.kp b_law_draw (Gpick.mono (by decide)) g_law_pick F_law_pick.kp b_law_pick (Gleaf.mono (by decide)) g_law_leaf F_law_leaf.kp b_law_leaf Gex g_law_expression F_law_expression.kp b_law_expression
    have Gtr := ok_tran (k := 12) F_law_transaction (Gdraw.mono (by decide)) g_law_draw F_law_draw.kp b_law_draw Gst g_law_statement F_law_statement.kp b_law_statement mrange mtuple
    have Glm := ok_made (k := 13) F_law_made (Gdraw.mono (by decide)) g_law_draw F_law_draw.kp b_law_draw Gtr g_law_transaction F_law_transaction.kp b_law_transaction mrange mtuple menumerate mlen
    have Gof := ok_contained_of (P := P) (w := w) (mg := mg) (base := base) (k := 0) Fcontained_of mFIELDS T_FIELDS mzip
    have Gcon := ok_contained (k := 1) Fcontained Gof gcontained_of Fcontained_of.kp bcontained_of mALL T_ALL
    have Gone := ok_one_deeper (k := 2) Fone_deeper Gcon gcontained Fcontained.kp bcontained
    have Gall := ok_all_parts (k := 3) Fall_parts Gone gone_deeper Fone_deeper.kp bone_deeper
    have Gcols := ok_columns_of (k := 4) Fcolumns_of Gall gall_parts Fall_parts.kp ball_parts mAGG T_AGG msorted mtuple
    have Gwith := ok_with (P := P) (w := w) (mg := mg) (base := base) (k := 0) Fwith_contained_of mFIELDS T_FIELDS mzip mtuple mlen
    have GfV := fun (lz : Str → Option Int) => ok_folded (j := 2) (k := 2) Ffolded (mkOkV (K := K) (lz := lz)) (nok_mV (k := 1) Gwith gwith_contained_of Fwith_contained_of.kp bwith_contained_of mALL T_ALL) (Nat.le_refl _) (Gof.mono (by decide)) gcontained_of Fcontained_of.kp bcontained_of mlen
    have GfL := fun (q0 : Int) (o : PyData) (ho : flatD o = true) => ok_folded (j := 2) (k := 2) Ffolded (mkOkL (K := K) (q := q0) ho) (nok_mL (k := 1) ho Gwith gwith_contained_of Fwith_contained_of.kp bwith_contained_of mALL T_ALL) (Nat.le_refl _) (Gof.mono (by decide)) gcontained_of Fcontained_of.kp bcontained_of mlen
    have GfW := fun (d : Pr) (wr : PyData) (ad : List PyData) (hw : flatD wr = true) (ha : flatDs ad = true) (hl : ad.length ≤ 1) => ok_folded (j := 2) (k := 6) Ffolded (mkOkW (K := K) (d := d) hw ha) (nok_mW (k := 1) hw ha hl Gwith gwith_contained_of Fwith_contained_of.kp bwith_contained_of mALL T_ALL mAGG T_AGG) (by decide) (Gof.mono (by decide)) gcontained_of Fcontained_of.kp bcontained_of mlen
    have Gwv := ok_with_variables (k := 3) Fwith_variables TBV hmV huV GfV gfolded Ffolded.kp bfolded mALL T_ALL
    have Glol := ok_led_over_let (k := 3) Fled_over_let TBL hmL huL GfL gfolded Ffolded.kp bfolded mALL T_ALL
    have Gsto := ok_statements_of (P := P) (w := w) (mg := mg) (base := base) (k := 0) Fstatements_of
    have Gsof := ok_start_of (P := P) (w := w) (mg := mg) (base := base) (k := 0) Fstart_of mmax
    have Glat := ok_lets_at (k := 1) Flets_at Gsof gstart_of Fstart_of.kp bstart_of
    have Gwl := ok_with_lets (k := 4) Fwith_lets (Glat.mono (by decide)) glets_at Flets_at.kp blets_at Gwv gwith_variables Fwith_variables.kp bwith_variables
    have Grows := ok_rows_of (P := P) (w := w) (mg := mg) (base := base) (k := 0) Frows_of
    have Gse := ok_slot_expression (k := 1) Fslot_expression Grows grows_of Frows_of.kp brows_of
    have Gslt := ok_slot_led_to (k := 5) Fslot_led_to Gwl gwith_lets Fwith_lets.kp bwith_lets (Gse.mono (by decide)) gslot_expression Fslot_expression.kp bslot_expression
    have Gtl := ok_is_too_large (k := 3) Fis_too_large Gone gone_deeper Fone_deeper.kp bone_deeper mlen mMOST_PARTS mDEEPEST
    have Gcol := ok_column_of (P := P) (w := w) (mg := mg) (base := base) (k := 0) Fcolumn_of
    have Gread := ok_read_by (k := 5) Fread_by Gcols gcolumns_of Fcolumns_of.kp bcolumns_of (Gall.mono (by decide)) gall_parts Fall_parts.kp ball_parts
    have Gka := ok_keys_added (k := 6) Fkeys_added Gslt gslot_led_to Fslot_led_to.kp bslot_led_to
    have Gcb := ok_cell_behind (k := 6) Fcell_behind Gslt gslot_led_to Fslot_led_to.kp bslot_led_to (Gcol.mono (by decide)) gcolumn_of Fcolumn_of.kp bcolumn_of mKEY T_KEY
    have Glow := ok_led_over_writer (k := 7) Fled_over_writer TBW hmW huW GfW gfolded Ffolded.kp bfolded mALL T_ALL Gka gkeys_added Fkeys_added.kp bkeys_added (Gcol.mono (by decide)) gcolumn_of Fcolumn_of.kp bcolumn_of Gcb gcell_behind Fcell_behind.kp bcell_behind
    have Glo := ok_led_over (k := 8) Fled_over Glow gled_over_writer Fled_over_writer.kp bled_over_writer (Glol.mono (by decide)) gled_over_let Fled_over_let.kp bled_over_let (Gslt.mono (by decide)) gslot_led_to Fslot_led_to.kp bslot_led_to
    have Wi := ok_winit (T := TTs PV PL PW) (k := 6) FMi T_W (Gsto.mono (by decide)) gstatements_of Fstatements_of.kp bstatements_of Gread gread_by Fread_by.kp bread_by
    have Wc := ok_changed (k := 1) FMc T_W Gcol gcolumn_of Fcolumn_of.kp bcolumn_of
    have Ws := ok_step (k := 9) FMs T_W (Wc.mono (by decide)) MMc bMc Glo gled_over Fled_over.kp bled_over (Gtl.mono (by decide)) gis_too_large Fis_too_large.kp bis_too_large (Gread.mono (by decide)) gread_by Fread_by.kp bread_by
    have Glb := ok_led_back (k := 9) Fled_back T_W M_W (PySem.W.mg_of X G a_W) (Wi.mono (by decide)) bMi Ws MMs bMs mrange mreversed
    have Gled := ok_led (k := 11) Fled Glb gled_back Fled_back.kp bled_back
    have Gsr := ok_step_right (k := 12) F_law_step_right Gled gled Fled.kp bled mrange mrepr misinstance mtuple
    have Gin := ok_inner (P := P) (w := w) (mg := mg) (base := base) (k := 0) F_law_inner mlist
    have Gsz := ok_ex (b := 72) (k := 73) (sp := sp_size K) fun n hn => (ok_size (k := 1) F_law_size Gin g_law_inner F_law_inner.kp b_law_inner g_law_size F_law_size.kp b_law_size msum mmax n).mono (by omega)
    have Gcl := ok_closed (P := P) (w := w) (mg := mg) (base := base) (k := 0) F_law_closed g_law_closed F_law_closed.kp b_law_closed misinstance mtuple 14
    have Gro := ok_rows (k := 15) F_law_rows Gcl g_law_closed F_law_closed.kp b_law_closed
    have Glc := ok_led_cell (P := P) (w := w) (mg := mg) (base := base) (k := 0) F_law_led_cell
    have Gld := ok_ex (b := 60) (k := 73) (sp := sp_ld K) fun n hn => (ok_ld (k := 1) F_law_led Glc g_law_led_cell F_law_led_cell.kp b_law_led_cell g_law_led F_law_led.kp b_law_led mtuple n).mono (by omega)
    have Gri := ok_right (k := 73) F_law_right (Gro.mono (by decide)) g_law_rows F_law_rows.kp b_law_rows Gld g_law_led F_law_led.kp b_law_led Gsz g_law_size F_law_size.kp b_law_size (L41.FnG.mono Gsr (by decide)) g_law_step_right F_law_step_right.kp b_law_step_right mrange
    exact ok_law (k := 74) F_law0 (Gdeck.mono (by decide)) g_law_deck F_law_deck.kp b_law_deck (Gdraw.mono (by decide)) g_law_draw F_law_draw.kp b_law_draw (Gworld.mono (by decide)) g_law_world F_law_world.kp b_law_world (Glm.mono (by decide)) g_law_made F_law_made.kp b_law_made (Gex.mono (by decide)) g_law_expression F_law_expression.kp b_law_expression Gri g_law_right F_law_right.kp b_law_right mrange
end L41
open PySem PySem.W PyProof.Rows
set_option maxHeartbeats 0 in
theorem PySem.Challenge.cw_lookdone_k41_one_step_back_holds : PySem.Challenge.rw_lookdone_k41_one_step_back.Holds := by
  w_on; o_law; k_head; (case hw => w_witness2)
  k_fill
  refine GR.walk_gt (l := PySem.Challenge.rw_lookdone_k41_one_step_back) (n := 63) (k := 75) (x := "_law_script") (cs := [(91, 87), (233, 229), (240, 236)]) (sp := fun K => L41.sp_law K (L41.TTs 87 229 236)) rfl (by decide) rfl ⟨rfl, by decide, by decide⟩ (fun w h Y => PySem.W.km_in_of Y) (fun w h Y => L41.all3 (PySem.W.km_tabs_of Y 87 (by decide)) (PySem.W.km_tabs_of Y 229 (by decide)) (PySem.W.km_tabs_of Y 236 (by decide))) ?nT ?hC ?F (fun _ H a ns hl ht hS => ⟨a, ns, rfl, hS, L41.tts_mk ht, fun _ => rfl⟩)
  case nT => exact fun w => L41.all3 (by kernel_rfl) (by kernel_rfl) (by kernel_rfl)
  case hC => exact fun w => L41.all3 (by kernel_rfl) (by kernel_rfl) (by kernel_rfl)
  case F =>
    intro w mg fa h KX G hmg
    refine' L41.all_mk (cV := 91) (PV := 87) (cL := 233) (PL := 229) (cW := 240) (PW := 236) (by decide) KX G hmg (L41.has_mk ?a_contained ?l_contained ?c_contained ?k_contained) (L41.has_mk ?a_contained_of ?l_contained_of ?c_contained_of ?k_contained_of) (L41.has_mk ?a_with_contained_of ?l_with_contained_of ?c_with_contained_of ?k_with_contained_of) (L41.has_mk ?a_folded ?l_folded ?c_folded ?k_folded) (L41.has_mk ?a_one_deeper ?l_one_deeper ?c_one_deeper ?k_one_deeper) (L41.has_mk ?a_all_parts ?l_all_parts ?c_all_parts ?k_all_parts) (L41.has_mk ?a_rows_of ?l_rows_of ?c_rows_of ?k_rows_of) (L41.has_mk ?a_columns_of ?l_columns_of ?c_columns_of ?k_columns_of) (L41.has_mkC ?a_with_variables ?l_with_variables ?c_with_variables ?k_with_variables) (L41.has_mk ?a_statements_of ?l_statements_of ?c_statements_of ?k_statements_of) (L41.has_mk ?a_start_of ?l_start_of ?c_start_of ?k_start_of) (L41.has_mk ?a_lets_at ?l_lets_at ?c_lets_at ?k_lets_at) (L41.has_mk ?a_slot_expression ?l_slot_expression ?c_slot_expression ?k_slot_expression) (L41.has_mk ?a_with_lets ?l_with_lets ?c_with_lets ?k_with_lets) (L41.has_mk ?a_column_of ?l_column_of ?c_column_of ?k_column_of) (L41.has_mk ?a_led ?l_led ?c_led ?k_led) (L41.has_mk ?a_led_back ?l_led_back ?c_led_back ?k_led_back) (L41.has_mk ?a_read_by ?l_read_by ?c_read_by ?k_read_by) (L41.has_mk ?a_is_too_large ?l_is_too_large ?c_is_too_large ?k_is_too_large) (L41.has_mk ?a_led_over ?l_led_over ?c_led_over ?k_led_over) (L41.has_mk ?a_slot_led_to ?l_slot_led_to ?c_slot_led_to ?k_slot_led_to) (L41.has_mkC ?a_led_over_let ?l_led_over_let ?c_led_over_let ?k_led_over_let) (L41.has_mkC ?a_led_over_writer ?l_led_over_writer ?c_led_over_writer ?k_led_over_writer) (L41.has_mk ?a_cell_behind ?l_cell_behind ?c_cell_behind ?k_cell_behind) (L41.has_mk ?a_keys_added ?l_keys_added ?c_keys_added ?k_keys_added) (L41.has_mk ?a_law_deck ?l_law_deck ?c_law_deck ?k_law_deck) (L41.has_mk ?a_law_draw ?l_law_draw ?c_law_draw ?k_law_draw) (L41.has_mk ?a_law_pick ?l_law_pick ?c_law_pick ?k_law_pick) (L41.has_mk ?a_law_names ?l_law_names ?c_law_names ?k_law_names) (L41.has_mk ?a_law_world ?l_law_world ?c_law_world ?k_law_world) (L41.has_mk ?a_law_number ?l_law_number ?c_law_number ?k_law_number) (L41.has_mk ?a_law_cell ?l_law_cell ?c_law_cell ?k_law_cell) (L41.has_mk ?a_law_leaf ?l_law_leaf ?c_law_leaf ?k_law_leaf) (L41.has_mk ?a_law_aggregate ?l_law_aggregate ?c_law_aggregate ?k_law_aggregate) (L41.has_mk ?a_law_expression ?l_law_expression ?c_law_expression ?k_law_expression) (L41.has_mk ?a_law_statement ?l_law_statement ?c_law_statement ?k_law_statement) (L41.has_mk ?a_law_transaction ?l_law_transaction ?c_law_transaction ?k_law_transaction) (L41.has_mk ?a_law_made ?l_law_made ?c_law_made ?k_law_made) (L41.has_mk ?a_law_closed ?l_law_closed ?c_law_closed ?k_law_closed) (L41.has_mk ?a_law_rows ?l_law_rows ?c_law_rows ?k_law_rows) (L41.has_mk ?a_law_led_cell ?l_law_led_cell ?c_law_led_cell ?k_law_led_cell) (L41.has_mk ?a_law_led ?l_law_led ?c_law_led ?k_law_led) (L41.has_mk ?a_law_inner ?l_law_inner ?c_law_inner ?k_law_inner) (L41.has_mk ?a_law_size ?l_law_size ?c_law_size ?k_law_size) (L41.has_mk ?a_law_step_right ?l_law_step_right ?c_law_step_right ?k_law_step_right) (L41.has_mk ?a_law_right ?l_law_right ?c_law_right ?k_law_right) (L41.has_mk ?a_law ?l_law ?c_law ?k_law) ?z_list ?z_sum ?z_len ?z_range ?z_repr ?z_tuple ?z_max ?z_sorted ?z_zip ?z_isinstance ?z_enumerate ?z_reversed ?c0_MOST_PARTS ?c0_DEEPEST ?z_FIELDS (L41.flds_mk ?l_F ?kl_F ?q_0 (L41.ktx_mk ?l_0 ?v_0 (by decide)) ?q_1 (L41.ktx_mk ?l_1 ?v_1 (by decide)) ?q_2 (L41.ktx_mk ?l_2 ?v_2 (by decide)) ?q_3 (L41.ktx_mk ?l_3 ?v_3 (by decide)) ?q_4 (L41.ktx_mk ?l_4 ?v_4 (by decide)) ?q_5 (L41.ktx_mk ?l_5 ?v_5 (by decide)) ?q_6 (L41.ktx_mk ?l_6 ?v_6 (by decide)) ?q_7 (L41.ktx_mk ?l_7 ?v_7 (by decide)) ?q_8 (L41.ktx_mk ?l_8 ?v_8 (by decide)) ?q_9 (L41.ktx_mk ?l_9 ?v_9 (by decide)) ?q_10 (L41.ktx_mk ?l_10 ?v_10 (by decide)) ?q_11 (L41.ktx_mk ?l_11 ?v_11 (by decide)) ?q_12 (L41.ktx_mk ?l_12 ?v_12 (by decide)) ?q_13 (L41.ktx_mk ?l_13 ?v_13 (by decide)) ?q_14 (L41.ktx_mk ?l_14 ?v_14 (by decide)) ?q_15 (L41.ktx_mk ?l_15 ?v_15 (by decide))) ?z_ALL (L41.ktx_mk (fs := ["free", "bound"]) ?l_A ?v_A (by decide)) ?z_AGG (L41.ktx_mk (fs := ["count", "sum", "most", "first"]) ?l_G ?v_G (by decide)) ?z_KEY (L41.ktx_mk (fs := ["key"]) ?l_K ?v_K (by decide)) ?a_W (L41.wc_mk ?pg_W ?hd_W ?po_W ?sa_W ?n1_W ?n2_W ?n3_W ?n4_W ?n5_W) ?mk_W ?kc_W (L41.hasM_mk (st := L41.s_winit) ?ma_Mi ?mi_Mi ?ml_Mi ?mc_Mi ?mkp_Mi) (L41.hasM_mk (st := L41.s_step_to) ?ma_Ms ?mi_Ms ?ml_Ms ?mc_Ms ?mkp_Ms) (L41.hasM_mk (st := L41.s_is_changed_by) ?ma_Mc ?mi_Mc ?ml_Mc ?mc_Mc ?mkp_Mc)
    (case a_contained => k_is)
    (case l_contained => k_is)
    (case c_contained => k_is)
    (case k_contained => k_is)
    (case a_contained_of => k_is)
    (case l_contained_of => k_is)
    (case c_contained_of => k_is)
    (case k_contained_of => k_is)
    (case a_with_contained_of => k_is)
    (case l_with_contained_of => k_is)
    (case c_with_contained_of => k_is)
    (case k_with_contained_of => k_is)
    (case a_folded => k_is)
    (case l_folded => k_is)
    (case c_folded => k_is)
    (case k_folded => k_is)
    (case a_one_deeper => k_is)
    (case l_one_deeper => k_is)
    (case c_one_deeper => k_is)
    (case k_one_deeper => k_is)
    (case a_all_parts => k_is)
    (case l_all_parts => k_is)
    (case c_all_parts => k_is)
    (case k_all_parts => k_is)
    (case a_rows_of => k_is)
    (case l_rows_of => k_is)
    (case c_rows_of => k_is)
    (case k_rows_of => k_is)
    (case a_columns_of => k_is)
    (case l_columns_of => k_is)
    (case c_columns_of => k_is)
    (case k_columns_of => k_is)
    (case a_with_variables => k_is)
    (case l_with_variables => k_is)
    (case c_with_variables => k_is)
    (case k_with_variables => k_is)
    (case a_statements_of => k_is)
    (case l_statements_of => k_is)
    (case c_statements_of => k_is)
    (case k_statements_of => k_is)
    (case a_start_of => k_is)
    (case l_start_of => k_is)
    (case c_start_of => k_is)
    (case k_start_of => k_is)
    (case a_lets_at => k_is)
    (case l_lets_at => k_is)
    (case c_lets_at => k_is)
    (case k_lets_at => k_is)
    (case a_slot_expression => k_is)
    (case l_slot_expression => k_is)
    (case c_slot_expression => k_is)
    (case k_slot_expression => k_is)
    (case a_with_lets => k_is)
    (case l_with_lets => k_is)
    (case c_with_lets => k_is)
    (case k_with_lets => k_is)
    (case a_column_of => k_is)
    (case l_column_of => k_is)
    (case c_column_of => k_is)
    (case k_column_of => k_is)
    (case a_led => k_is)
    (case l_led => k_is)
    (case c_led => k_is)
    (case k_led => k_is)
    (case a_led_back => k_is)
    (case l_led_back => k_is)
    (case c_led_back => k_is)
    (case k_led_back => k_is)
    (case a_read_by => k_is)
    (case l_read_by => k_is)
    (case c_read_by => k_is)
    (case k_read_by => k_is)
    (case a_is_too_large => k_is)
    (case l_is_too_large => k_is)
    (case c_is_too_large => k_is)
    (case k_is_too_large => k_is)
    (case a_led_over => k_is)
    (case l_led_over => k_is)
    (case c_led_over => k_is)
    (case k_led_over => k_is)
    (case a_slot_led_to => k_is)
    (case l_slot_led_to => k_is)
    (case c_slot_led_to => k_is)
    (case k_slot_led_to => k_is)
    (case a_led_over_let => k_is)
    (case l_led_over_let => k_is)
    (case c_led_over_let => k_is)
    (case k_led_over_let => k_is)
    (case a_led_over_writer => k_is)
    (case l_led_over_writer => k_is)
    (case c_led_over_writer => k_is)
    (case k_led_over_writer => k_is)
    (case a_cell_behind => k_is)
    (case l_cell_behind => k_is)
    (case c_cell_behind => k_is)
    (case k_cell_behind => k_is)
    (case a_keys_added => k_is)
    (case l_keys_added => k_is)
    (case c_keys_added => k_is)
    (case k_keys_added => k_is)
    (case a_law_deck => k_is)
    (case l_law_deck => k_is)
    (case c_law_deck => k_is)
    (case k_law_deck => k_is)
    (case a_law_draw => k_is)
    (case l_law_draw => k_is)
    (case c_law_draw => k_is)
    (case k_law_draw => k_is)
    (case a_law_pick => k_is)
    (case l_law_pick => k_is)
    (case c_law_pick => k_is)
    (case k_law_pick => k_is)
    (case a_law_names => k_is)
    (case l_law_names => k_is)
    (case c_law_names => k_is)
    (case k_law_names => k_is)
    (case a_law_world => k_is)
    (case l_law_world => k_is)
    (case c_law_world => k_is)
    (case k_law_world => k_is)
    (case a_law_number => k_is)
    (case l_law_number => k_is)
    (case c_law_number => k_is)
    (case k_law_number => k_is)
    (case a_law_cell => k_is)
    (case l_law_cell => k_is)
    (case c_law_cell => k_is)
    (case k_law_cell => k_is)
    (case a_law_leaf => k_is)
    (case l_law_leaf => k_is)
    (case c_law_leaf => k_is)
    (case k_law_leaf => k_is)
    (case a_law_aggregate => k_is)
    (case l_law_aggregate => k_is)
    (case c_law_aggregate => k_is)
    (case k_law_aggregate => k_is)
    (case a_law_expression => k_is)
    (case l_law_expression => k_is)
    (case c_law_expression => k_is)
    (case k_law_expression => k_is)
    (case a_law_statement => k_is)
    (case l_law_statement => k_is)
    (case c_law_statement => k_is)
    (case k_law_statement => k_is)
    (case a_law_transaction => k_is)
    (case l_law_transaction => k_is)
    (case c_law_transaction => k_is)
    (case k_law_transaction => k_is)
    (case a_law_made => k_is)
    (case l_law_made => k_is)
    (case c_law_made => k_is)
    (case k_law_made => k_is)
    (case a_law_closed => k_is)
    (case l_law_closed => k_is)
    (case c_law_closed => k_is)
    (case k_law_closed => k_is)
    (case a_law_rows => k_is)
    (case l_law_rows => k_is)
    (case c_law_rows => k_is)
    (case k_law_rows => k_is)
    (case a_law_led_cell => k_is)
    (case l_law_led_cell => k_is)
    (case c_law_led_cell => k_is)
    (case k_law_led_cell => k_is)
    (case a_law_led => k_is)
    (case l_law_led => k_is)
    (case c_law_led => k_is)
    (case k_law_led => k_is)
    (case a_law_inner => k_is)
    (case l_law_inner => k_is)
    (case c_law_inner => k_is)
    (case k_law_inner => k_is)
    (case a_law_size => k_is)
    (case l_law_size => k_is)
    (case c_law_size => k_is)
    (case k_law_size => k_is)
    (case a_law_step_right => k_is)
    (case l_law_step_right => k_is)
    (case c_law_step_right => k_is)
    (case k_law_step_right => k_is)
    (case a_law_right => k_is)
    (case l_law_right => k_is)
    (case c_law_right => k_is)
    (case k_law_right => k_is)
    (case a_law => k_is)
    (case l_law => k_is)
    (case c_law => k_is)
    (case k_law => k_is)
    (case z_list => k_is)
    (case z_sum => k_is)
    (case z_len => k_is)
    (case z_range => k_is)
    (case z_repr => k_is)
    (case z_tuple => k_is)
    (case z_max => k_is)
    (case z_sorted => k_is)
    (case z_zip => k_is)
    (case z_isinstance => k_is)
    (case z_enumerate => k_is)
    (case z_reversed => k_is)
    (case c0_MOST_PARTS => k_is)
    (case c0_DEEPEST => k_is)
    (case z_FIELDS => k_is)
    (case l_F => k_is)
    (case kl_F => k_keys)
    (case q_0 => k_is)
    (case l_0 => k_is)
    (case v_0 => repeat (first | exact .nil | refine .cons ⟨_, rfl⟩ ?_))
    (case q_1 => k_is)
    (case l_1 => k_is)
    (case v_1 => repeat (first | exact .nil | refine .cons ⟨_, rfl⟩ ?_))
    (case q_2 => k_is)
    (case l_2 => k_is)
    (case v_2 => repeat (first | exact .nil | refine .cons ⟨_, rfl⟩ ?_))
    (case q_3 => k_is)
    (case l_3 => k_is)
    (case v_3 => repeat (first | exact .nil | refine .cons ⟨_, rfl⟩ ?_))
    (case q_4 => k_is)
    (case l_4 => k_is)
    (case v_4 => repeat (first | exact .nil | refine .cons ⟨_, rfl⟩ ?_))
    (case q_5 => k_is)
    (case l_5 => k_is)
    (case v_5 => repeat (first | exact .nil | refine .cons ⟨_, rfl⟩ ?_))
    (case q_6 => k_is)
    (case l_6 => k_is)
    (case v_6 => repeat (first | exact .nil | refine .cons ⟨_, rfl⟩ ?_))
    (case q_7 => k_is)
    (case l_7 => k_is)
    (case v_7 => repeat (first | exact .nil | refine .cons ⟨_, rfl⟩ ?_))
    (case q_8 => k_is)
    (case l_8 => k_is)
    (case v_8 => repeat (first | exact .nil | refine .cons ⟨_, rfl⟩ ?_))
    (case q_9 => k_is)
    (case l_9 => k_is)
    (case v_9 => repeat (first | exact .nil | refine .cons ⟨_, rfl⟩ ?_))
    (case q_10 => k_is)
    (case l_10 => k_is)
    (case v_10 => repeat (first | exact .nil | refine .cons ⟨_, rfl⟩ ?_))
    (case q_11 => k_is)
    (case l_11 => k_is)
    (case v_11 => repeat (first | exact .nil | refine .cons ⟨_, rfl⟩ ?_))
    (case q_12 => k_is)
    (case l_12 => k_is)
    (case v_12 => repeat (first | exact .nil | refine .cons ⟨_, rfl⟩ ?_))
    (case q_13 => k_is)
    (case l_13 => k_is)
    (case v_13 => repeat (first | exact .nil | refine .cons ⟨_, rfl⟩ ?_))
    (case q_14 => k_is)
    (case l_14 => k_is)
    (case v_14 => repeat (first | exact .nil | refine .cons ⟨_, rfl⟩ ?_))
    (case q_15 => k_is)
    (case l_15 => k_is)
    (case v_15 => repeat (first | exact .nil | refine .cons ⟨_, rfl⟩ ?_))
    (case z_ALL => k_is)
    (case l_A => k_is)
    (case v_A => repeat (first | exact .nil | refine .cons ⟨_, rfl⟩ ?_))
    (case z_AGG => k_is)
    (case l_G => k_is)
    (case v_G => repeat (first | exact .nil | refine .cons ⟨_, rfl⟩ ?_))
    (case z_KEY => k_is)
    (case l_K => k_is)
    (case v_K => repeat (first | exact .nil | refine .cons ⟨_, rfl⟩ ?_))
    (case a_W => k_is)
    (case pg_W => k_is)
    (case hd_W => k_is)
    (case po_W => k_is)
    (case sa_W => k_is)
    (case n1_W => k_is)
    (case n2_W => k_is)
    (case n3_W => k_is)
    (case n4_W => k_is)
    (case n5_W => k_is)
    (case mk_W => k_is)
    (case kc_W => k_is)
    (case ma_Mi => k_is)
    (case mi_Mi => k_is)
    (case ml_Mi => k_is)
    (case mc_Mi => k_is)
    (case mkp_Mi => k_is)
    (case ma_Ms => k_is)
    (case mi_Ms => k_is)
    (case ml_Ms => k_is)
    (case mc_Ms => k_is)
    (case mkp_Ms => k_is)
    (case ma_Mc => k_is)
    (case mi_Mc => k_is)
    (case ml_Mc => k_is)
    (case mc_Mc => k_is)
    (case mkp_Mc => k_is)
