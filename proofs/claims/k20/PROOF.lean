import PyProof.Rows.All
import Wide.All
import OpenK.AllK
import Wide.FinOn
import HandS.ForMost
import PyProof.ReprRoads
import HandS.Wide
import HandS.Style
import HandS.Evl
import HandS.Conv
import HandS.Replace
import PyProof.AutoSeq1
import HandS.Star
import HandS.SortKw
import KE.DatumOrd
import KE.KDictPairs
import HandS.Zip
import HandS.More
import HandS.Walk
import HandS.Set
import HandS.SetBool
import HandS.SetKeys
import PyProof.Rows.SortStr
import HandS.Strs
import HandS.Flow
import HandS.IsInst
import PyProof.P3In
import HandS.DictComp
import HandS.TupAny
import HandS.SetFor
import HandS.TupLe
import PySem.Challenge.RW_lookdone_k20_where_expressions_may_stand
set_option Elab.async false
set_option linter.all false
set_option maxRecDepth 100000
set_option maxHeartbeats 4000000
namespace GR
open PySem PySem.Spec PyProof.Rows L2

/-! ### data that stands in the abstract heap -/
section
variable {X : Cx} {pins : List (Addr × Obj)} {σ : L2.St} {H : Hp} {s : Shared}
mutual
theorem nodict {K : PySem.W.Frag} : ∀ {v : V} {d : PyData}, Dp K H v d → d.hasDict = false
  | _, _, .non => by simp only [PyData.hasDict]
  | _, _, .bl b => by simp only [PyData.hasDict]
  | _, _, .int i => by simp only [PyData.hasDict]
  | _, _, .str x => by simp only [PyData.hasDict]
  | _, _, .lst _ q => by simp only [PyData.hasDict, nodicts q]
  | _, _, .tup _ q => by simp only [PyData.hasDict, nodicts q]
theorem nodicts {K : PySem.W.Frag} : ∀ {vs : List V} {ds : List PyData}, DpAll K H vs ds → PyData.hasDictAll ds = false
  | _, _, .nil => by simp only [PyData.hasDictAll]
  | _, _, .cons h q => by simp only [PyData.hasDictAll, nodict h, nodicts q, Bool.or_self]
end

/-- repr of a list or a tuple of data -/
def rRepr (X : Cx) : List V → Hp → VK → Prop := fun xs H Q => ∃ (a : Addr) (d : PyData), xs = [.ref a] ∧ Dp X.K H (.ref a) d ∧ d.showable = true ∧ d.depth ≤ 60 ∧ d.shown.length ≤ sizeLine ∧ Q (.str d.shown) H
theorem call_reprD {k : Nat} (hg : X.A.guards = some []) (hr : Room k X.A) : CallR X (.builtin "repr") (rRepr X) := by
  intro pins s σ H xs us Q I r h
  obtain ⟨a, d, rfl, hd, hs, hdep, hz, q⟩ := h
  obtain ⟨u, rfl, rv⟩ := vals1 r
  obtain rfl : u = Value.ref a := rv
  obtain ⟨as, hR⟩ := Dp.reads I d _ _ hd rfl
  have hu := hr.units
  exact repr_of_reads' hR hs (PyData.noDict_hsm (nodict hd)) hg (by omega) (fun _ _ e => e) (fun h' u tk hk => ⟨.str d.shown, H, I.kept hk, ⟨_, rfl⟩, q⟩) hz
end

/-! ### defs that show things: a promise kept wherever nothing is being shown -/
structure FnG (P : Program) (w : World) (K : PySem.W.Frag) (mg : Str → Option Value) (base : Heap) (CX : CXT) (k : Nat) (f : Addr) (fd : FuncData) (ps : List Str) (sp : Sp) : Prop where
  size : ∀ vs H Q E, sp vs H Q E → vs.length = ps.length
  go : ∀ (A : Around) (outer : List Env) (s : Shared) (H : Hp) (args : Args) (us : List Value) (vs : List V) (Q : VK) (E : XK),
    A.guards = some [] → Room k A → Env0 P w K mg base A outer s H → BindsTo s fd args (ps.zip us) → Vals vs us → sp vs H Q E →
    codeAny (model P w) A (.call (.ref f) args) (CR CX outer P w H s Q E) s

section
variable {P : Program} {w : World} {K : PySem.W.Frag} {mg : Str → Option Value} {base : Heap}
theorem FnG.of {CX : CXT} {k : Nat} {f : Addr} {fd : FuncData} {ps : List Str} {sp : Sp} (F : FnOk P w K mg base CX k f fd ps sp) : FnG P w K mg base CX k f fd ps sp :=
  ⟨F.len, fun A outer s H args us vs Q E _ => F.run A outer s H args us vs Q E⟩

/-- a def by its body, where nothing is being shown -/
theorem ok_g {x qual : Str} {st : Stmt} {f : Addr} {fd : FuncData} {N ps : List Str} {k : Nat} {sp : Sp} (F : Fun K x qual st f fd) (S : FnScope N ps (defScope st)) (size : ∀ vs H Q E, sp vs H Q E → vs.length = ps.length)
    (body : ∀ (cdv : Value) (A : Around) (outer : List Env) (s : Shared) (H : Hp) (vs : List V) (Q : VK) (E : XK), A.guards = some [] → Room k (A.deeper (envOfC qual (defScope st) s.heap.objs.size f cdv)) → sp vs H Q E →
      ∃ t, PSs (cxOf CX0 P w K mg base N qual (defScope st) f cdv A outer s H E).nox (defBody st) t ∧ t { nx := fun _ H' => Q .non H', rt := Q } (start N vs) H) : FnG P w K mg base CX0 (k + 1) f fd ps sp := by
  obtain ⟨oc, od, kV, doc, pm, an, cdv, ct, osl, rfl, lk, hcd⟩ := F.ex
  constructor
  · exact size
  intro A outer s H args us vs Q E gA room e0 bnd rel hsp
  have inK : K.In s.heap := e0.mod.kin.keeps (fun b o q => (e0.bs b o q).1)
  have nolim := e0.mod.nolimit.keeps (fun b o q => (e0.bs b o q).1)
  obtain ⟨t, ht, hq⟩ := body cdv A outer s H vs Q E gA (room.deeper _) hsp
  refine codeAny_call_function room.depth (inK f _ lk) rfl S.co S.gen rfl (PySem.W.codeRec_of inK hcd) (bnd _ _ _ _ ?_)
  refine wpAny_newFunctionEnv_cells S.kind ?par (fun env he s1 inC => ?run)
  case par =>
    rintro ⟨n, v⟩ hy
    rcases S.par n (List.of_mem_zip hy).1 with q | q
    · exact Or.inl q
    · exact Or.inr ⟨q, PySem.W.cellsFrom_some _ _ _ (Or.inl q)⟩
  case run =>
    cases he
    refine And.intro (nolim.keeps inC.toInCall.keep) (codeAny_func ?_)
    have I0 := inv_start (CX := CX0) (P := P) (w := w) (K := K) (mg := mg) (base := base) (E := E) S room.hd e0 (size _ _ _ _ hsp) rel inC
    refine wpAny_mono (ht.nox.run [] s1 (start N vs) H _ I0 hq) ?_ (fun _ _ z => z)
    rintro fl s' hs
    have close : ∀ (σ' : L2.St) (H' : Hp) (v : V) (u : Value), Inv (cxOf CX0 P w K mg base N qual (defScope st) f cdv A outer s H E) [] σ' H' s' → RelV v u → Q v H' → CE outer P w H s Q u s' := by
      intro σ' H' v u J rv q
      exact ⟨v, H', J.os, J.bare, J.base, J.hok, rv, q⟩
    cases fl
    case ret u => obtain ⟨v, σ', H', J, rv, q⟩ := hs; exact close _ _ _ _ J rv q
    case next => obtain ⟨σ', H', J, q⟩ := hs; exact close _ _ V.non Value.none J rfl q
    case brk => obtain ⟨_, _, _, q⟩ := hs; exact q.elim
    case cont => obtain ⟨_, _, _, q⟩ := hs; exact q.elim
end

section
variable {X : Cx} {CX : CXT} {k : Nat} {f : Addr} {fd : FuncData} {ps : List Str} {sp : Sp} {E : XK} {x : Str} {p pos : Pos} {e : Expr} {es : List Expr} {t : TA}
/-- its call -/
theorem pe_callG (F : FnG X.prog X.w X.K X.mg X.base CX k f fd ps sp) (hg : X.A.guards = some []) (hr : Room k X.A) (gx : Gl X x) (hm : X.mg x = some (.ref f)) (hk : PySem.W.keepIn X.K (.ref f) = true) (hb : Binds X.K fd ps []) (hx : Passes CX X E)
    (ha : PA X (e :: es) t) (hdb : (x == ("__debug__" : Str)) = false := by decide) (he : starEach (e :: es) X.env = (false, eval e X.env) :: starEach es X.env := by rfl) (hpl : (backTo pos (starEach es X.env)).any (·.1) = false := by rfl) :
    PE X (.Call (.Name x p) (e :: es) [] pos) (tCall sp [] E t) := by
  constructor
  intro pins s σ H Q I h
  refine wpAny_Call_Name_kw (ld_glob I gx hm (PySem.W.callWith_K (h₀ := X.base) I.ok.mod.kin hk (thn (ha.run pos pins s σ H _ I h) ?_) he hpl) hdb)
  rintro us s1 ⟨vs, H1, I1, r, q⟩
  refine ⟨I1.kIn, ?_⟩
  have q' : sp vs H1 Q E := by simpa using q
  have hl : us.length = ps.length := by
    rw [← r.length]
    exact F.size _ _ _ _ q'
  have hB := hb s1 us I1.kIn (by simpa using hl)
  rw [List.append_nil] at hB
  refine wpAny_call (codeAny_mono (F.go X.A X.stack s1 H1 ⟨us, []⟩ us vs Q E hg hr I1.env0 hB r q') ?_)
  rintro (er | fl) s2 hq
  · exact hx pins σ H1 s1 er s2 I1 hq
  · cases fl
    case ret u => exact I1.after hq
    case next => exact hq.elim
    case brk => exact hq.elim
    case cont => exact hq.elim
end

/-- a comprehension without a test -/
theorem yes_then {σ : L2.St} {H : Hp} {A B : Hp → Prop} (h : A H) : tYes σ H (fun b H3 => if b = true then A H3 else B H3) := by
  show (if true = true then A H else B H)
  rw [if_pos rfl]
  exact h

/-! ### the law's own call -/
/-- the abstract heap in which the script alone is tracked, as it stands -/
def scriptHp (a : Addr) (o : Obj) (xs : List V) : Hp := fun b => if b = a then some (.frz o (.lst xs)) else none
theorem scriptHp_at {a : Addr} {o : Obj} {xs : List V} : scriptHp a o xs a = some (.frz o (.lst xs)) := if_pos rfl
theorem scriptHp_some {a b : Addr} {o : Obj} {xs : List V} {u : HO} (h : scriptHp a o xs b = some u) : b = a ∧ u = .frz o (.lst xs) := by
  unfold scriptHp at h
  split at h
  · rename_i e
    exact ⟨e, (Option.some.inj h).symm⟩
  · cases h

theorem ns_hid {h : Heap} {H : Hp} {b : Addr} {m : Str → Option Value} (q : h.Ns b m) (hb : H b = none) : (hidT h H).Ns b m := by
  obtain ⟨o, es, ep, e, r⟩ := q
  exact ⟨o, es, ep, hidT_get e hb, r⟩

theorem law_callG {P : Program} {w : World} {K : PySem.W.Frag} {mg mb : Str → Option Value} {k : Nat} {fa a : Addr} {fd : FuncData} {x : Str} {sp : Sp} {s₁ : Shared} {vs : List Value} {ns : List Int}
    (KX : K.In s₁.heap) (hns : s₁.heap.Ns mainGlobals mg) (hb : s₁.heap.Ns builtinsNs mb) (hbb : ∀ x : Str, x ≠ "__name__" → mb x = bootBuiltins x) (hlim : s₁.heap.NoLimit) (hg : s₁.gens = #[])
    (ha : s₁.heap.get? a = some { cls := .type "list", data := .seq vs.toArray }) (hi : IntsAre vs ns) (hl : ns.length ≤ sizeLine) (hr : Room k callerA)
    (F : ∀ base : Heap, K.In base → base.Ns mainGlobals mg → FnG P w K mg base CX0 k fa fd [x] sp) (hbind : ∀ (s : Shared) (u : Value), BindsTo s fd ⟨[u], []⟩ [(x, u)])
    (hsp : ∀ H : Hp, Only H → SqL K H a (ns.map V.int) → sp [.ref a] H (fun v _ => v = .bl true) fun _ _ _ => False) :
    codeAny (model P w) callerA (.call (.ref fa) ⟨[.ref a], []⟩) (fun r s' => r = .ok (.ret (.bool true)) ∧ OldK s₁.heap s'.heap ∧ s'.os = s₁.os ∧ AllBare s'.gens) s₁ := by
  have main : ∀ H : Hp, Only H → SqL K H a (ns.map V.int) → HOk P w H s₁.heap → (∀ b u, H b = some u → b = a ∧ K.lookup a = none) →
      codeAny (model P w) callerA (.call (.ref fa) ⟨[.ref a], []⟩) (fun r s' => r = .ok (.ret (.bool true)) ∧ OldK s₁.heap s'.heap ∧ s'.os = s₁.os ∧ AllBare s'.gens) s₁ := by
    intro H only seq ok one
    have free : ∀ b, (∀ o n, s₁.heap.get? b = some o → o.data ≠ .seq vs.toArray n) → H b = none := by
      intro b nb
      cases q : H b with
      | none => rfl
      | some u =>
        obtain ⟨rfl, _⟩ := one b u q
        exact absurd rfl (nb _ _ ha)
    have freeD : ∀ {b : Addr} {m : Str → Option Value}, s₁.heap.Ns b m → H b = none := by
      rintro b m ⟨o, es, ep, e, d, _⟩
      refine free b fun o' n e' d' => ?_
      rw [e] at e'
      cases e'
      rw [d] at d'
      cases d'
    have inB : K.In (hidT s₁.heap H) := by
      intro b o e
      refine hidT_get (KX b o e) ?_
      cases q : H b with
      | none => rfl
      | some u =>
        obtain ⟨rfl, z⟩ := one b u q
        rw [z] at e
        cases e
    have gB := ns_hid hns (freeD hns)
    have md : Mod K mg (hidT s₁.heap H) := by
      refine ⟨inB, gB, ⟨mb, ns_hid hb (freeD hb), hbb⟩, ?_⟩
      obtain ⟨mc, h1, h2⟩ := hlim
      exact ⟨mc, ns_hid h1 (freeD h1), h2⟩
    have start0 : Env0 P w K mg (hidT s₁.heap H) callerA [] s₁ H := by
      constructor
      · rfl
      · exact md
      · exact fun b o e => of_hidT e
      · exact Nat.le_of_eq (hidT_size _ _)
      · trivial
      · intro b hb
        exact absurd (show b ∈ ([] : List Addr) from hb) (by simp)
      · exact ok
      · exact .of_eq hg
    have run := (F _ inB gB).go callerA [] s₁ H ⟨[.ref a], []⟩ [.ref a] [.ref a] (fun v _ => v = .bl true) (fun _ _ _ => False) rfl hr start0 (hbind s₁ (.ref a)) (.cons rfl .nil) (hsp H only seq)
    refine codeAny_mono run ?_
    rintro (er | fl) s' h
    · exact False.elim h
    cases fl with
    | next => exact False.elim h
    | brk => exact False.elim h
    | cont => exact False.elim h
    | ret u =>
      obtain ⟨v, H', os, bare, un, ok', rv, q⟩ := h
      cases (show v = .bl true from q)
      cases (show u = Value.bool true from rv)
      refine ⟨rfl, OldK.of_keep ?_, os, bare⟩
      intro b o e
      cases z : H b with
      | none => exact un.keep b o e z (fun m => absurd (show b ∈ ([] : List Addr) from m) (by simp)) (by simp)
      | some u =>
        rcases only b with z' | ⟨ob, xs, z'⟩
        · rw [z] at z'
          cases z'
        · have e1 := (ok b _ z').1
          have e2 := (ok' b _ (un.frzs b ob _ z')).1
          rw [e] at e1
          rw [e1]
          exact e2
  have rv := vals_ints hi
  cases hk : K.lookup a with
  | some o =>
    have e := KX a o hk
    rw [ha] at e
    cases e
    refine main (fun _ => none) (fun _ => .inl rfl) (.inr ⟨_, vs.toArray, _, hk, rfl, rfl, rfl, ?_, by simpa using rv⟩) ?_ ?_
    · rw [List.size_toArray, hi.length]
      exact hl
    · intro b u z
      cases z
    · intro b u z
      cases z
  | none =>
    refine main (scriptHp a { cls := .type "list", data := .seq vs.toArray } (ns.map V.int)) ?_ (.inl (.inr ⟨_, scriptHp_at⟩)) ?_ ?_
    · intro b
      cases z : scriptHp a { cls := .type "list", data := .seq vs.toArray } (ns.map V.int) b with
      | none => exact .inl rfl
      | some u => exact .inr ⟨_, _, by rw [(scriptHp_some z).2]⟩
    · intro b u z
      obtain ⟨rfl, rfl⟩ := scriptHp_some z
      refine ⟨ha, ?_, vs, _, rv, ha⟩
      rw [List.length_map]
      exact hl
    · intro b u z
      exact ⟨(scriptHp_some z).1, hk⟩

theorem walk_g {l : PySem.W.OpenLaw} {n k : Nat} {q : Program} {loose : List Str} {XP : (Str → Option Value) → Heap → Prop} {YP : World → Heap → Prop} {d : DefRec} {K : Params → PySem.W.Frag} {sp : PySem.W.Frag → Sp} {x : Str}
    (hn : l.most = some n) (hn2 : n ≤ sizeLine) (hdf : d.params.defaults = []) (hr : Room k callerA)
    (hY : ∀ (w : World) (h : Heap), YP w h → (K w.params).In h)
    (F : ∀ (w : World) (mg : Str → Option Value) (fa : Addr) (h : Heap), (K w.params).In h → h.Ns mainGlobals mg → mg d.name = some (.ref fa) →
      ∃ fd : FuncData, (∀ (s : Shared) (u : Value), BindsTo s fd ⟨[u], []⟩ [(x, u)]) ∧
        ∀ base : Heap, (K w.params).In base → base.Ns mainGlobals mg → FnG l.prog w (K w.params) mg base CX0 k fa fd [x] (sp (K w.params)))
    (hsp : ∀ (K : PySem.W.Frag) (H : Hp) (a : Addr) (ns : List Int), ns.length ≤ n → Only H → SqL K H a (ns.map V.int) → sp K [.ref a] H (fun v _ => v = .bl true) fun _ _ _ => False) :
    PySem.W.WalkO q loose XP YP l.row.toRowW d [] (fun f vs => PySem.call f vs) := by
  apply Att.attach_call hn hdf
  intro w s₀ s₁ mg mb fa o pm cd doc a vs ns G Y ho hd hcd hmg hobj hints hlen hg
  obtain ⟨fd, bnd, keeps⟩ := F w mg fa _ (hY w _ Y) G.T.g hmg
  exact law_callG (hY w _ Y) G.T.g G.T.b G.T.builtins G.T.nolimit hg hobj hints (Nat.le_trans hlen hn2) hr keeps bnd (fun H => hsp _ H a ns hlen)
end GR

namespace L20
open PySem PySem.Spec PyProof.Rows L2 GR
abbrev LIM : Int := 1000000000000000000
def topS (i : Nat) : Stmt := PySem.Challenge.pw_lookdone_k20_where_expressions_may_stand.main.body.getD i (.Pass ⟨0, 0, 0, 0⟩)
theorem same_upd {H : Hp} {p : Addr} {o : HO} (h : H p = none) : Same H (upd H p o) := fun b x e => by
  rw [upd_ne (ne_of_none e h)]
  exact e
theorem le2 : 2 ≤ sizeLine := by decide
theorem at0 {xs : List V} {v : V} : atI (v :: xs) 0 = some v := atI_nat (j := 0) rfl
theorem at1 {xs : List V} {v u : V} : atI (u :: v :: xs) 1 = some v := atI_nat (j := 1) rfl
theorem at2 {xs : List V} {v u t : V} : atI (t :: u :: v :: xs) 2 = some v := atI_nat (j := 2) rfl
theorem at3 {xs : List V} {v u t s : V} : atI (s :: t :: u :: v :: xs) 3 = some v := atI_nat (j := 3) rfl
/-! ### the law's deck -/
/-- the deck at d: the cells at c, a number, the count of draws, at most N -/
def Deck (H : Hp) (d c : Addr) (N : Int) : Prop := ∃ (cells : List Int) (m n : Int), H d = some (.lst [.ref c, .int m, .int n]) ∧ H c = some (.lst (cells.map V.int)) ∧ cells.length ≤ 63 ∧ 0 ≤ n ∧ n ≤ N
theorem Deck.ne {H : Hp} {d c : Addr} {N : Int} (h : Deck H d c N) : c ≠ d := by
  obtain ⟨cells, m, n, h1, h2, _⟩ := h
  rintro rfl
  rw [h1] at h2
  have e := HO.lst.inj (Option.some.inj h2)
  cases cells with
  | nil => cases e
  | cons x r =>
    have := (List.cons.inj e).1
    cases this
theorem Deck.mono {H : Hp} {d c : Addr} {N M : Int} (h : Deck H d c N) (hm : N ≤ M) : Deck H d c M := by
  obtain ⟨cells, m, n, h1, h2, h3, h4, h5⟩ := h
  exact ⟨cells, m, n, h1, h2, h3, h4, Int.le_trans h5 hm⟩
/-- all but the deck is as it was -/
def Keep (d c : Addr) (H H' : Hp) : Prop := ∀ b o, b ≠ d → b ≠ c → H b = some o → H' b = some o
theorem Keep.refl {d c : Addr} {H : Hp} : Keep d c H H := fun _ _ _ _ e => e
theorem Keep.trans {d c : Addr} {H H1 H2 : Hp} (a : Keep d c H H1) (b : Keep d c H1 H2) : Keep d c H H2 := fun x o h1 h2 e => b x o h1 h2 (a x o h1 h2 e)
theorem Keep.of {d c : Addr} {H H' : Hp} (s : Same H H') : Keep d c H H' := fun b o _ _ e => s b o e
theorem Deck.same {H H' : Hp} {d c : Addr} {N : Int} (h : Deck H d c N) (s : Same H H') : Deck H' d c N := by
  obtain ⟨cells, m, n, h1, h2, h3⟩ := h
  exact ⟨cells, m, n, s _ _ h1, s _ _ h2, h3⟩
/-- a tuple, a list that is not the deck's stays -/
theorem Keep.tup {d c p : Addr} {H H' : Hp} {N : Int} {xs : List V} (s : Keep d c H H') (D : Deck H d c N) (h : H p = some (.tup xs)) : H' p = some (.tup xs) := by
  obtain ⟨cells, m, n, h1, h2, _⟩ := D
  exact s p _ (ne_of h h1 (fun z => by cases z)) (ne_of h h2 (fun z => by cases z)) h
theorem dp_ints {K : PySem.W.Frag} {H : Hp} : ∀ ns : List Int, DpAll K H (ns.map V.int) (ns.map PyData.int)
  | [] => .nil
  | n :: ns => .cons (.int n) (dp_ints ns)
theorem lay_ints : ∀ ns : List Int, PyData.canLayAll0 (ns.map PyData.int) = true
  | [] => by simp only [List.map_nil, PyData.canLayAll0]
  | n :: ns => by simp only [List.map_cons, PyData.canLayAll0, PyData.canLay0, lay_ints ns, Bool.and_self]
theorem depth_ints : ∀ ns : List Int, PyData.depthAll (ns.map PyData.int) ≤ 1
  | [] => by simp only [List.map_nil, PyData.depthAll]; omega
  | n :: ns => by
    have := depth_ints ns
    simp only [List.map_cons, PyData.depthAll, PyData.depth]
    omega
theorem shaped_ints (ns : List Int) : SeqAt.shaped (.list (ns.map PyData.int)) = true := by
  have := depth_ints ns
  unfold SeqAt.shaped
  rw [Bool.and_eq_true]
  refine ⟨by simp only [PyData.canLay0, lay_ints], decide_eq_true ?_⟩
  simp only [PyData.depth]
  omega
theorem neq_nil : ∀ ns : List Int, (!PyData.eqv (.list (ns.map PyData.int)) (.list [])) = !ns.isEmpty
  | [] => by simp only [List.map_nil, PyData.eqv, PyData.eqvAll, List.isEmpty_nil]
  | n :: ns => by simp only [List.map_cons, PyData.eqv, PyData.eqvAll, List.isEmpty_cons]

def num1 (z n : Int) : Int := (z % 2147483629 + 7919 * (n + 1) * (n + 1) + 31) * 48271 % 2147483647
theorem num1_rng (z n : Int) : -(2 ^ 64) < num1 z n ∧ num1 z n < 2 ^ 64 := by
  unfold num1
  omega
def num2 (x n : Int) : Int := (x * x + 69621 * x + (n + 1)) % 2147483587
theorem num2_rng (x n : Int) : -(2 ^ 64) < num2 x n ∧ num2 x n < 2 ^ 64 := by
  unfold num2
  omega

section
variable {P : Program} {w : World} {K : PySem.W.Frag} {mg : Str → Option Value} {base : Heap}
abbrev s_law_draw : Stmt := topS 19
theorem sc_law_draw : FnScope ["_law_deck_here", "_law_most", "_law_cell", "_law_number"] ["_law_deck_here", "_law_most"] (defScope s_law_draw) := ⟨rfl, rfl, rfl, by decide +kernel, rfl, by decide +kernel, by decide +kernel⟩
def sp_draw : Sp := fun vs H Q _ => ∃ (d c : Addr) (N most : Int), vs = [.ref d, .int most] ∧ Deck H d c N ∧ N < 2 ^ 60 ∧ 0 < most ∧ most < 2 ^ 100 ∧
  ∀ H' r, Keep d c H H' → Deck H' d c (N + 1) → 0 ≤ r → r < most → Q (.int r) H'
theorem ok_draw {f : Addr} {fd : FuncData} {k : Nat} (F : Fun K "_law_draw" "_law_draw" s_law_draw f fd) :
    FnOk P w K mg base CX0 (k + 1) f fd ["_law_deck_here", "_law_most"] sp_draw := by
  have nd := sc_law_draw.nd
  refine F.ok sc_law_draw (fun vs H Q E h => ?_) (fun cdv A outer s H vs Q E hr h => ?_)
  · obtain ⟨d, c, N, most, rfl, _⟩ := h
    rfl
  obtain ⟨d, c, N, most, rfl, D, hN, hm0, hm1, q⟩ := h
  have hcd := D.ne
  obtain ⟨cells, m, n, hd, hc, hlen, hn0, hn1⟩ := D
  refine ⟨_, (pss_cons (ps_asg (pe_op op_add (pe_ix ix_list (pv 0) pe_int (fun _ _ => rfl)) pe_int) (pg_sub (pv 0) pe_int set_list))
      (pss_cons (ps_set (i := 2) nd rfl (.inl rfl) (pe_ix ix_list (pv 0) pe_int (fun _ _ => rfl)))
      (Evl.pss_cut (ps_if (pt_cmpR (op_neD hr.units) (pe_ix ix_list (pv 0) pe_int (fun _ _ => rfl)) (pe_lst pa_nil) (nomark _))
      (pss_cons (ps_set (i := 2) nd rfl (.inl rfl) (pe_bm0 PySem.F.plainAttrs_list PySem.F.slot_list_pop PySem.F.type_list_pop mt_pop (pe_ix ix_list (pv 0) pe_int (fun _ _ => rfl))))
        (pss_one (ps_if (pt_cmpR op_ge (pv 2) (pe_op op_pow pe_int pe_int) (nomark _))
        (pss_cons (ps_expr (pe_bm PySem.F.plainAttrs_list PySem.F.slot_list_append PySem.F.type_list_append mt_append (pe_ix ix_list (pv 0) pe_int (fun _ _ => rfl)) (pa_cons (pe_op op_fdivW (pv 2) (pv 1)) pa_nil)))
          (pss_one (ps_ret (pe_op op_mod (pv 2) (pv 1)))))
        pss_nil)))
      pss_nil)
      (pss_cons (ps_set (i := 3) nd rfl (.inl rfl) (pe_op op_mod (pe_op op_mul (pe_op op_add (pe_op op_add (pe_op op_mod (pv 2) pe_int) (pe_op op_mul (pe_op op_mul pe_int (pe_ix ix_list (pv 0) pe_int (fun _ _ => rfl))) (pe_ix ix_list (pv 0) pe_int (fun _ _ => rfl)))) pe_int) pe_int) pe_int))
      (pss_cons (ps_set (i := 3) nd rfl (.inl rfl) (pe_op op_mod (pe_op op_add (pe_op op_add (pe_op op_mul (pv 3) (pv 3)) (pe_op op_mul pe_int (pv 3))) (pe_ix ix_list (pv 0) pe_int (fun _ _ => rfl))) pe_int))
      (pss_one (ps_ret (pe_op op_mod (pe_op op_fdivW (pe_op op_mod (pe_op op_mul (pv 3) (pe_op op_add (pe_op op_fdivW (pv 3) pe_int) pe_int)) pe_int) pe_int) (pv 1))))))))), ?_⟩
  refine ⟨.ref d, rfl, d, _, 2, _, rfl, rfl, .inl (.inl hd), at2, _, _, rfl, rfl, .ref d, rfl, d, _, 2, 2, rfl, rfl, hd, rfl, ?_⟩
  -- the deck with one draw more
  have h1d : upd H d (.lst [.ref c, .int m, .int (n + 1)]) d = some (.lst [.ref c, .int m, .int (n + 1)]) := upd_same
  have h1c : upd H d (.lst [.ref c, .int m, .int (n + 1)]) c = some (.lst (cells.map V.int)) := by
    rw [upd_ne hcd]
    exact hc
  have k1 : Keep d c H (upd H d (.lst [.ref c, .int m, .int (n + 1)])) := fun b o nb _ e => by
    rw [upd_ne nb]
    exact e
  refine ⟨.ref d, rfl, d, _, 1, _, rfl, rfl, .inl (.inl h1d), at1, ?_⟩
  have wd : CDivW 0 most := wide_div hm0 (b := 100) (by omega) (by decide) (by decide)
  refine ⟨fun σ' H' => ∃ (z : Int) (cells' : List Int), σ' = [some (.ref d), some (.int most), some (.int z), none] ∧ Keep d c H H' ∧ H' d = some (.lst [.ref c, .int m, .int (n + 1)]) ∧ H' c = some (.lst (cells'.map V.int)) ∧ cells'.length ≤ 63, ?_, ?_⟩
  · refine ⟨.ref d, rfl, d, _, 0, _, rfl, rfl, .inl (.inl h1d), at0, Nat.zero_le _, fun e ne => ?_⟩
    have s2 : Same (upd H d (.lst [.ref c, .int m, .int (n + 1)])) (upd (upd H d (.lst [.ref c, .int m, .int (n + 1)])) e (.lst [])) := same_upd ne
    have h2d := s2 _ _ h1d
    have h2c := s2 _ _ h1c
    have k2 := k1.trans (Keep.of s2)
    refine ⟨_, _, .lst (.inl (.inl h2c)) (dp_ints cells), .lst (.inl (.inl upd_same)) .nil, shaped_ints cells, shaped_ints [], _, rfl, ?_⟩
    rw [neq_nil]
    cases hcs : cells with
    | nil => exact iteF ⟨m, cells, rfl, k2, h2d, h2c, hlen⟩
    | cons x0 r0 =>
      refine iteT ?_
      have hne : cells ≠ [] := by
        rw [hcs]
        exact List.cons_ne_nil _ _
      have hlast : (cells.map V.int)[(cells.map V.int).length - 1]? = some (.int (cells.getLast hne)) := by
        rw [List.length_map, List.getElem?_map, ← List.getLast?_eq_getElem?, List.getLast?_eq_getLast hne]
        rfl
      refine ⟨.ref d, rfl, d, _, 0, _, rfl, rfl, .inl (.inl h2d), at0, .inl ⟨rfl, _, .inl (.inl h2c)⟩, c, _, _, rfl, rfl, h2c, hlast, ?_⟩
      have hdrop : (cells.map V.int).dropLast = cells.dropLast.map V.int := by rw [List.map_dropLast]
      rw [hdrop]
      have h3d : upd (upd (upd H d (.lst [.ref c, .int m, .int (n + 1)])) e (.lst [])) c (.lst (cells.dropLast.map V.int)) d = some (.lst [.ref c, .int m, .int (n + 1)]) := by
        rw [upd_ne hcd.symm]
        exact h2d
      have h3c : upd (upd (upd H d (.lst [.ref c, .int m, .int (n + 1)])) e (.lst [])) c (.lst (cells.dropLast.map V.int)) c = some (.lst (cells.dropLast.map V.int)) := upd_same
      have k3 : Keep d c H (upd (upd (upd H d (.lst [.ref c, .int m, .int (n + 1)])) e (.lst [])) c (.lst (cells.dropLast.map V.int))) := fun b o n1 n2 e1 => by
        rw [upd_ne n2]
        exact k2 b o n1 n2 e1
      have l3 : cells.dropLast.length + 1 ≤ 63 := by
        rw [List.length_dropLast, hcs, List.length_cons]
        rw [hcs, List.length_cons] at hlen
        omega
      generalize cells.getLast hne = z
      refine ⟨.int z, rfl, _, _, rfl, rfl, ⟨by decide, by decide, by decide⟩, _, _, rfl, rfl, _, rfl, ite2 (fun e5 => ?_) (fun e5 => ?_)⟩
      · refine ⟨.ref d, rfl, d, _, 0, _, rfl, rfl, .inl (.inl h3d), at0, .inl ⟨rfl, _, .inl (.inl h3c)⟩, .int z, rfl, .int most, rfl, z, most, rfl, rfl, wd, c, _, _, rfl, rfl, h3c, ?_, ?_⟩
        · rw [List.length_map]
          exact small1000 (by omega)
        · refine ⟨.int z, rfl, .int most, rfl, z, most, rfl, rfl, hm0, ?_⟩
          refine q _ _ ?_ ?_ (Int.emod_nonneg _ (by omega)) (Int.emod_lt_of_pos _ hm0)
          · intro b o n1 n2 e1
            rw [upd_ne n2]
            exact k3 b o n1 n2 e1
          · refine ⟨cells.dropLast ++ [z / most], m, n + 1, ?_, ?_, ?_, by omega, by omega⟩
            · rw [upd_ne hcd.symm]
              exact h3d
            · rw [upd_same, List.map_append]
              rfl
            · rw [List.length_append, List.length_singleton]
              exact l3
      · exact ⟨z, cells.dropLast, rfl, k3, h3d, h3c, by omega⟩
  · rintro σ' H' ⟨z, cells', rfl, kk, h5d, h5c, hl5⟩
    have hn2 : -(2 ^ 64) < n + 1 ∧ n + 1 < 2 ^ 64 := by omega
    refine ⟨.int z, rfl, z, 2147483629, rfl, rfl, (show (0 : Int) < 2147483629 by decide), .ref d, rfl, d, _, 2, _, rfl, rfl, .inl (.inl h5d), at2, 7919, n + 1, rfl, rfl, .inl ⟨by decide, by decide⟩, .ref d, rfl, d, _, 2, _, rfl, rfl, .inl (.inl h5d), at2, 7919 * (n + 1), n + 1, rfl, rfl, .inr hn2, _, _, rfl, rfl, _, _, rfl, rfl, _, 48271, rfl, rfl, .inr ⟨by decide, by decide⟩, _, 2147483647, rfl, rfl, (show (0 : Int) < 2147483647 by decide), ?_⟩
    have b1 := num1_rng z n
    refine ⟨.int (num1 z n), rfl, .int (num1 z n), rfl, num1 z n, num1 z n, rfl, rfl, .inl b1, .int (num1 z n), rfl, 69621, num1 z n, rfl, rfl, .inr b1, _, _, rfl, rfl, .ref d, rfl, d, _, 2, _, rfl, rfl, .inl (.inl h5d), at2, _, _, rfl, rfl, _, 2147483587, rfl, rfl, (show (0 : Int) < 2147483587 by decide), ?_⟩
    have b2 := num2_rng (num1 z n) n
    refine ⟨.int (num2 (num1 z n) n), rfl, .int (num2 (num1 z n) n), rfl, num2 (num1 z n) n, 5, rfl, rfl, ⟨by decide, by decide⟩, _, _, rfl, rfl, num2 (num1 z n) n, _, rfl, rfl, .inl b2, _, 2147483579, rfl, rfl, (show (0 : Int) < 2147483579 by decide), _, 64, rfl, rfl, ⟨by decide, by decide⟩, .int most, rfl, _, most, rfl, rfl, hm0, ?_⟩
    exact q _ _ kk ⟨cells', m, n + 1, h5d, h5c, hl5, by omega, by omega⟩ (Int.emod_nonneg _ (by omega)) (Int.emod_lt_of_pos _ hm0)
end
theorem Keep.seq {K : PySem.W.Frag} {d c a : Addr} {H H' : Hp} {xs : List V} (s : Keep d c H H') (h : SqL K H a xs) (h1 : a ≠ d) (h2 : a ≠ c) : SqL K H' a xs := by
  rcases h with (h | ⟨o, h⟩) | h
  · exact .inl (.inl (s _ _ h1 h2 h))
  · exact .inl (.inr ⟨o, s _ _ h1 h2 h⟩)
  · exact .inr h
theorem cut63 (ns : List Int) : ∃ ms : List Int, cutV (ns.map V.int) none (some 63) = ms.map V.int ∧ ms.length ≤ 63 := by
  refine ⟨ns.take (min 63 ns.length), ?_, ?_⟩
  · unfold cutV
    rw [HT.sIx_none, show HT.sIx (ns.map V.int).length (ns.map V.int).length (some 63) = min 63 (ns.map V.int).length from HT.sIx_nat _ _ 63, List.drop_zero, List.map_take, List.length_map, Nat.sub_zero]
  · rw [List.length_take]
    omega
theorem small_le {n : Nat} (h : n ≤ 1000) : n ≤ sizeLine := Nat.le_of_lt (small1000 h)
section
variable {P : Program} {w : World} {K : PySem.W.Frag} {mg : Str → Option Value} {base : Heap}
abbrev s_law_deck : Stmt := topS 18
theorem sc_law_deck : FnScope ["_law_script", "_law_cells"] ["_law_script"] (defScope s_law_deck) := ⟨rfl, rfl, rfl, by decide +kernel, rfl, by decide +kernel, by decide +kernel⟩
def sp_deck (K : PySem.W.Frag) : Sp := fun vs H Q _ => ∃ (a : Addr) (ns : List Int), vs = [.ref a] ∧ SqL K H a (ns.map V.int) ∧ ∀ H' d c, Same H H' → H d = none → Deck H' d c 0 → Q (.ref d) H'
theorem ok_deck {f : Addr} {fd : FuncData} {k : Nat} (F : Fun K "_law_deck" "_law_deck" s_law_deck f fd) (mlist : mg "list" = none) (msum : mg "sum" = none) (mlen : mg "len" = none) :
    FnOk P w K mg base CX0 (k + 1) f fd ["_law_script"] (sp_deck K) := by
  have nd := sc_law_deck.nd
  refine F.ok sc_law_deck (fun vs H Q E h => ?_) (fun cdv A outer s H vs Q E hr h => ?_)
  · obtain ⟨a, ns, rfl, _⟩ := h
    rfl
  obtain ⟨a, ns, rfl, hS, q⟩ := h
  obtain ⟨ms, hms, hl⟩ := cut63 ns
  refine ⟨_, (pss_cons (ps_set (i := 1) nd rfl (.inl rfl) (pe_callTy call_list_of (by rfl) mlist boot_list (pa_cons (pe_slice sl_list (pv 0) po_none (po_some pe_int)) pa_nil)))
      (pss_one (ps_ret (pe_lst (pa_cons (pe_revL (pv 1)) (pa_cons (pe_op op_add (pe_op op_mod (pe_callB (cr_sum rfl) (by rfl) msum boot_sum (pa_cons (pv 1) pa_nil)) pe_int) (pe_op op_mul pe_int (pe_callB call_len_seq (by rfl) mlen PySem.boot_len (pa_cons (pv 1) pa_nil)))) (pa_cons pe_int pa_nil))))))), ?_⟩
  refine ⟨.ref a, rfl, 63, rfl, a, _, rfl, hS, fun p np => ?_⟩
  rw [hms]
  have s1 : Same H (upd H p (.lst (ms.map V.int))) := same_upd np
  refine ⟨p, _, rfl, .inl (.inl (.inl upd_same)), fun l nl => ?_⟩
  have s2 := same_upd (o := .lst (ms.map V.int)) nl
  have hl2 : SqL K (upd (upd H p (.lst (ms.map V.int))) l (.lst (ms.map V.int))) l (ms.map V.int) := .inl (.inl upd_same)
  refine ⟨.ref l, rfl, l, _, rfl, hl2, fun c nc => ?_⟩
  have s3 := same_upd (o := .lst (ms.map V.int).reverse) nc
  refine ⟨.ref l, rfl, l, ms, rfl, s3.seq hl2, _, 2147483629, rfl, rfl, (show (0 : Int) < 2147483629 by decide), .ref l, rfl, l, _, rfl, .inl (s3.seq hl2), 48271, _, rfl, rfl, .inl ⟨by decide, by decide⟩, _, _, rfl, rfl, small_le (show 3 ≤ 1000 by decide), fun d nd' => ?_⟩
  refine q _ d c ((s1.trans s2).trans (s3.trans (same_upd nd'))) ?_ ?_
  · exact s1.free (s2.free (s3.free nd'))
  · refine ⟨ms.reverse, _, 0, upd_same, ?_, ?_, Int.le_refl 0, Int.le_refl 0⟩
    · have : c ≠ d := ne_of_none (show upd _ c _ c = _ from upd_same) nd'
      rw [upd_ne this, upd_same, List.map_reverse]
    · rw [List.length_reverse]
      exact hl
end
theorem Deck.new {H : Hp} {d c a : Addr} {N : Int} (D : Deck H d c N) (na : H a = none) : a ≠ d ∧ a ≠ c := by
  obtain ⟨cells, m, n, h1, h2, _⟩ := D
  exact ⟨(ne_of_none h1 na).symm, (ne_of_none h2 na).symm⟩
theorem Keep.free {d c a : Addr} {H H' : Hp} (s : Keep d c H H') (na : H' a = none) (h1 : a ≠ d) (h2 : a ≠ c) : H a = none := by
  cases q : H a with
  | none => rfl
  | some o =>
    rw [s a o h1 h2 q] at na
    cases na
end L20

namespace L20
open PySem PySem.Spec PyProof.Rows L2 GR
abbrev L26 : Str := "abcdefghijklmnopqrstuvwxyz"
def sgn (c : Nat) : Str := ⟨#[c]⟩
theorem l26_len : L26.length = 26 := by decide
theorem l26_at : ∀ k, k < 26 → L26.cps.toList[k]? = some (97 + k) := by decide
theorem l26_occ : ∀ k, k < 26 → Builtin.Str.occurrences L26 (sgn (97 + k)) 0 L26.length 1 = [k] := by decide +kernel
def Low (c : Nat) : Prop := 97 ≤ c ∧ c ≤ 122
/-- the words that are no names -/
def barred : List Str := ["key", "if", "at", "count", "sum", "most", "first", "let", "need", "put", "each", "tell"]
/-- a name -/
def Nm (z : Str) : Prop := 1 ≤ z.cps.toList.length ∧ z.cps.toList.length ≤ 8 ∧ (∀ c, c ∈ z.cps.toList → Low c) ∧ z ∉ barred
theorem nm_lit {z : Str} (h : (decide (1 ≤ z.cps.toList.length) && decide (z.cps.toList.length ≤ 8) && z.cps.toList.all (fun c => decide (97 ≤ c) && decide (c ≤ 122)) && decide (z ∉ barred)) = true) : Nm z := by
  simp only [Bool.and_eq_true, decide_eq_true_eq, List.all_eq_true] at h
  obtain ⟨⟨⟨h1, h2⟩, h3⟩, h4⟩ := h
  exact ⟨h1, h2, fun c hc => h3 c hc, h4⟩
theorem barred_q : ∀ z, z ∈ barred → z.cps.toList.head? ≠ some 113 := by decide
/-- the text of single signs, joined -/
theorem join_signs : ∀ cs : List Nat, (Txt.join Str.empty (cs.map sgn)).cps.toList = cs := by
  intro cs
  have hj : ∀ cs : List Nat, TL.joinL [] (cs.map fun c => [c]) = cs := by
    intro cs
    induction cs with
    | nil => rfl
    | cons a r ih =>
      cases r with
      | nil => rfl
      | cons b r =>
        show [a] ++ ([] ++ TL.joinL [] ((b :: r).map fun c => [c])) = a :: b :: r
        rw [ih]
        rfl
  have := TL.tl_join Str.empty (cs.map sgn)
  rw [List.map_map] at this
  rw [TL.join_eq]
  exact this.trans (hj cs)
section
variable {P : Program} {w : World} {K : PySem.W.Frag} {mg : Str → Option Value} {base : Heap}
abbrev s_law_pick : Stmt := topS 20
theorem sc_law_pick : FnScope ["_law_deck_here", "_law_some"] ["_law_deck_here", "_law_some"] (defScope s_law_pick) := ⟨rfl, rfl, rfl, by decide +kernel, rfl, by decide +kernel, by decide +kernel⟩
/-- a pick from a list, or from the letters -/
def sp_pick (K : PySem.W.Frag) : Sp := fun vs H Q _ =>
  (∃ (d c a : Addr) (N : Int) (xs : List V), vs = [.ref d, .ref a] ∧ Deck H d c N ∧ N < 2 ^ 60 ∧ SqL K H a xs ∧ xs ≠ [] ∧ xs.length ≤ 1000 ∧ a ≠ d ∧ a ≠ c ∧ ∀ H' v, Keep d c H H' → Deck H' d c (N + 1) → v ∈ xs → Q v H') ∨
  (∃ (d c : Addr) (N : Int), vs = [.ref d, .str L26] ∧ Deck H d c N ∧ N < 2 ^ 60 ∧ ∀ H' k, Keep d c H H' → Deck H' d c (N + 1) → k < 26 → Q (.str (sgn (97 + k))) H')
theorem ok_pick {f f_law_draw : Addr} {fd fd_law_draw : FuncData} {k : Nat} (F : Fun K "_law_pick" "_law_pick" s_law_pick f fd) (G_law_draw : FnOk P w K mg base CX0 k f_law_draw fd_law_draw ["_law_deck_here", "_law_most"] sp_draw)
    (g_law_draw : mg "_law_draw" = some (.ref f_law_draw)) (K_law_draw : PySem.W.keepIn K (.ref f_law_draw) = true) (b_law_draw : Binds K fd_law_draw ["_law_deck_here", "_law_most"] []) (mlen : mg "len" = none) :
    FnOk P w K mg base CX0 (k + 1) f fd ["_law_deck_here", "_law_some"] (sp_pick K) := by
  have nd := sc_law_pick.nd
  refine F.ok sc_law_pick (fun vs H Q E h => ?_) (fun cdv A outer s H vs Q E hr h => ?_)
  · rcases h with ⟨d, c, a, N, xs, rfl, _⟩ | ⟨d, c, N, rfl, _⟩ <;> rfl
  refine ⟨_, (pss_one (ps_ret (pe_ix ix_seq (pv 1) (pe_call G_law_draw hr (by rfl) g_law_draw K_law_draw b_law_draw .nil pass0 (pa_cons (pv 0) (pa_cons (pe_callB call_len (by rfl) mlen PySem.boot_len (pa_cons (pv 1) pa_nil)) pa_nil))) (fun _ _ => rfl)))), ?_⟩
  rcases h with ⟨d, c, a, N, xs, rfl, D, hN, hS, hne, hlen, had, hac, q⟩ | ⟨d, c, N, rfl, D, hN, q⟩
  · have hpos : 0 < xs.length := List.length_pos_iff.mpr hne
    refine ⟨.ref a, rfl, .ref d, rfl, .ref a, rfl, .ref a, xs.length, rfl, .inl ⟨xs, hS, rfl⟩, d, c, N, (xs.length : Int), rfl, D, hN, by omega, by omega, fun H' r kp D' r0 r1 => ?_⟩
    obtain ⟨j, rfl⟩ := Int.eq_ofNat_of_zero_le r0
    have hj : j < xs.length := by omega
    exact .inl ⟨a, xs, j, xs[j], rfl, rfl, kp.seq hS had hac, atI_nat (List.getElem?_eq_getElem hj), q H' _ kp D' (List.getElem_mem hj)⟩
  · refine ⟨.str L26, rfl, .ref d, rfl, .str L26, rfl, .str L26, 26, rfl, ⟨by rw [l26_len]; decide, l26_len.symm⟩, d, c, N, 26, rfl, D, hN, by decide, by decide, fun H' r kp D' r0 r1 => ?_⟩
    obtain ⟨j, rfl⟩ := Int.eq_ofNat_of_zero_le r0
    have hj : j < 26 := by omega
    exact .inr (.inr ⟨L26, j, 97 + j, rfl, rfl, by rw [l26_len]; decide, atI_nat (l26_at j hj), q H' j kp D' hj⟩)
end
end L20

namespace L20
open PySem PySem.Spec PyProof.Rows L2 GR
/-- lists of texts of single signs -/
def sg (cs : List Nat) : List V := (cs.map sgn).map V.str
theorem sg_length (cs : List Nat) : (sg cs).length = cs.length := by
  unfold sg
  rw [List.length_map, List.length_map]
theorem sg_snoc (cs : List Nat) (c : Nat) : sg cs ++ [V.str (sgn c)] = sg (cs ++ [c]) := by
  unfold sg
  simp
theorem sg_set (cs : List Nat) (i c : Nat) : (sg cs).set i (V.str (sgn c)) = sg (cs.set i c) := by
  unfold sg
  rw [List.map_set, List.map_set]
theorem sg_get {cs : List Nat} {i c : Nat} (h : cs[i]? = some c) : (sg cs)[i]? = some (V.str (sgn c)) := by
  unfold sg
  rw [List.getElem?_map, List.getElem?_map, h]
  rfl
theorem nm_signs {z : Str} {cs : List Nat} (hz : z.cps.toList = 113 :: cs) (h0 : cs.length ≤ 7) (hl : ∀ c, c ∈ cs → Low c) : Nm z := by
  refine ⟨by rw [hz]; simp, by rw [hz, List.length_cons]; omega, ?_, fun hb => ?_⟩
  · rw [hz]
    intro c hc
    rcases List.mem_cons.mp hc with rfl | hc
    · exact ⟨by decide, by decide⟩
    · exact hl c hc
  · have := barred_q z hb
    rw [hz] at this
    exact this rfl
theorem sgn_length (cs : List Nat) : ((cs.map sgn).map (·.length)).sum = cs.length := by
  induction cs with
  | nil => rfl
  | cons c r ih =>
    rw [List.map_cons, List.map_cons, List.sum_cons, ih, List.length_cons]
    show 1 + r.length = r.length + 1
    omega
section
variable {P : Program} {w : World} {K : PySem.W.Frag} {mg : Str → Option Value} {base : Heap}
abbrev s_law_names : Stmt := topS 21
abbrev N_names : List Str := ["_law_deck_here", "_law_many", "_law_letters", "_law_k", "_law_word", "_law_at", "_law_first", "_law_found"]
theorem sc_law_names : FnScope N_names ["_law_deck_here", "_law_many"] (defScope s_law_names) := ⟨rfl, rfl, rfl, by decide +kernel, rfl, by decide +kernel, by decide +kernel⟩
/-- a new list of names -/
def sp_names : Sp := fun vs H Q _ => ∃ (d c : Addr) (N : Int) (many : Nat), vs = [.ref d, .int (many : Int)] ∧ Deck H d c N ∧ N < 2 ^ 55 ∧ many ≤ 100 ∧
  ∀ H' p (zs : List Str), Keep d c H H' → Deck H' d c (N + 20) → H p = none → H' p = some (.lst (zs.map V.str)) → zs.length = many → (∀ z, z ∈ zs → Nm z) → Q (.ref p) H'
theorem ok_names {f f_law_draw f_law_pick : Addr} {fd fd_law_draw fd_law_pick : FuncData} {k : Nat} (F : Fun K "_law_names" "_law_names" s_law_names f fd) (G_law_draw : FnOk P w K mg base CX0 k f_law_draw fd_law_draw ["_law_deck_here", "_law_most"] sp_draw)
    (g_law_draw : mg "_law_draw" = some (.ref f_law_draw)) (K_law_draw : PySem.W.keepIn K (.ref f_law_draw) = true) (b_law_draw : Binds K fd_law_draw ["_law_deck_here", "_law_most"] [])
    (G_law_pick : FnOk P w K mg base CX0 k f_law_pick fd_law_pick ["_law_deck_here", "_law_some"] (sp_pick K))
    (g_law_pick : mg "_law_pick" = some (.ref f_law_pick)) (K_law_pick : PySem.W.keepIn K (.ref f_law_pick) = true) (b_law_pick : Binds K fd_law_pick ["_law_deck_here", "_law_some"] [])
    (mrange : mg "range" = none) (mlen : mg "len" = none) : FnOk P w K mg base CX0 (k + 1) f fd ["_law_deck_here", "_law_many"] sp_names := by
  have nd := sc_law_names.nd
  refine F.ok sc_law_names (fun vs H Q E h => ?_) (fun cdv A outer s H vs Q E hr h => ?_)
  · obtain ⟨d, c, N, many, rfl, _⟩ := h
    rfl
  obtain ⟨d, c, N, many, rfl, D, hN, hmany, q⟩ := h
  refine ⟨_, (pss_cons (ps_set (i := 2) nd rfl (.inr rfl) pe_str)
      (Evl.pss_cut (ps_set (i := 4) nd rfl (.inl rfl) (pe_op op_cat (pe_lst (pa_cons pe_str pa_nil)) (pe_lc (own := [("_law_k", 3)]) rfl nd (pi_range1 rfl mrange (pa_cons (pe_op op_add pe_int (pe_call G_law_draw hr (by rfl) g_law_draw K_law_draw b_law_draw .nil pass0 (pa_cons (pv 0) (pa_cons pe_int pa_nil)))) pa_nil)) (blkOk_by (N := N_names) (sc := defScope s_law_names) (by decide +kernel)) (fun _ _ _ _ _ => (pg_name (i := 3) nd rfl (Or.inl rfl))) (fun _ _ _ _ _ => pts_nil)
          (te := tCall (sp_pick K) [] E0 (tCons (tVar 0) (tCons (tVar 2) tNil)))
          (fun _ _ _ _ _ => (pe_call G_law_pick hr (by rfl) g_law_pick K_law_pick b_law_pick .nil pass0 (pa_cons (pv 0) (pa_cons (pv 2) pa_nil)))))))
      (pss_cons (ps_set (i := 5) nd rfl (.inl rfl) (pe_op op_add pe_int (pe_call G_law_draw hr (by rfl) g_law_draw K_law_draw b_law_draw .nil pass0 (pa_cons (pv 0) (pa_cons (pe_op op_sub (pe_callB call_len_seq (by rfl) mlen PySem.boot_len (pa_cons (pv 4) pa_nil)) pe_int) pa_nil)))))
      (pss_cons (ps_set (i := 6) nd rfl (.inl rfl) (pe_bm PySem.F.plainAttrs_str PySem.F.slot_str_index PySem.F.type_str_index mt_sindex (pv 2) (pa_cons (pe_ix ix_list (pv 4) (pv 5) (fun _ _ => rfl)) pa_nil)))
      (pss_cons (ps_set (i := 7) nd rfl (.inl rfl) (pe_lst pa_nil))
      (pss_cons (ps_for PassesOwn.never rfl (pi_range1 rfl mrange (pa_cons (pv 1) pa_nil)) (pg_name (i := 3) nd rfl (Or.inl rfl))
      (pss_cons (ps_asg (pe_ix ix_str (pv 2) (pe_op op_mod (pe_op op_add (pv 6) (pv 3)) pe_int) (fun _ _ => rfl)) (pg_sub (pv 4) (pv 5) set_list))
        (pss_one (ps_expr (pe_bm PySem.F.plainAttrs_list PySem.F.slot_list_append PySem.F.type_list_append mt_append (pv 7) (pa_cons (pe_join pe_str (pv 4)) pa_nil))))))
      (pss_one (ps_ret (pv 7))))))))), ?_⟩
  -- word = ['q'] + [..]
  refine ⟨fun σ' H' => ∃ wd cs, σ' = [some (.ref d), some (.int (many : Int)), some (.str L26), none, some (.ref wd), none, none, none] ∧ Keep d c H H' ∧ Deck H' d c (N + 8) ∧ H wd = none ∧ wd ≠ d ∧ wd ≠ c ∧ H' wd = some (.lst (sg (113 :: cs))) ∧ 1 ≤ cs.length ∧ cs.length ≤ 7 ∧ (∀ x, x ∈ cs → Low x), ?_, ?_⟩
  · refine ⟨Nat.le_of_lt (small1000 (show 1 ≤ 1000 by decide)), fun l nl => ?_⟩
    have sl := same_upd (o := .lst [.str "q"]) nl
    have D1 := D.same sl
    have hl := D.new nl
    have hl1 : upd H l (.lst [.str "q"]) l = some (.lst [.str "q"]) := upd_same
    refine ⟨.ref d, rfl, d, c, N, 7, rfl, D1, by omega, by decide, by decide, fun H1 r k1 D2 r0 r1 => ?_⟩
    obtain ⟨n, rfl⟩ := Int.eq_ofNat_of_zero_le r0
    refine ⟨1, (n : Int), rfl, rfl, 1 + (n : Int), rfl, by omega, by omega, fun B nB => ?_⟩
    have hB := D2.new nB
    have nlB : l ≠ B := ne_of_none (k1 _ _ hl.1 hl.2 hl1) nB
    have e1n : (1 + (n : Int)).toNat = n + 1 := by omega
    rw [e1n]
    refine lc_range (n := n + 1) (fun i H' => ∃ cs, cs.length = i ∧ (∀ x, x ∈ cs → Low x) ∧ H' B = some (.lst (sg cs)) ∧ (∀ b o, b ≠ d → b ≠ c → b ≠ B → H1 b = some o → H' b = some o) ∧ Deck H' d c (N + 1 + (i : Int))) ?_ ?_ ?_
    · refine ⟨[], rfl, fun x hx => (nomatch hx), upd_same, fun b o _ _ nb e => by rw [upd_ne nb]; exact e, ?_⟩
      exact (D2.same (same_upd nB)).mono (by omega)
    · rintro i H3 hi ⟨cs, hlen, hlow, hB3, k3, D3⟩
      refine ⟨rfl, yes_then ⟨.ref d, rfl, .str L26, rfl, .inr ⟨d, c, _, rfl, D3, by omega, fun H4 j k4 D4 hj => ?_⟩⟩⟩
      refine ⟨_, k4 _ _ hB.1 hB.2 hB3, ?_, cs ++ [97 + j], ?_, ?_, ?_, ?_, ?_⟩
      · rw [sg_length]
        exact small1000 (by omega)
      · rw [List.length_append, hlen]
        rfl
      · intro x hx
        rcases List.mem_append.mp hx with hx | hx
        · exact hlow x hx
        · rw [List.mem_singleton.mp hx]
          unfold Low
          omega
      · rw [upd_same, sg_snoc]
      · intro b o n1 n2 n3 e
        rw [upd_ne n3]
        exact k4 _ _ n1 n2 (k3 b o n1 n2 n3 e)
      · obtain ⟨cells, m, x, g1, g2, g3, g4, g5⟩ := D4
        refine ⟨cells, m, x, ?_, ?_, g3, g4, by omega⟩
        · rw [upd_ne hB.1.symm]
          exact g1
        · rw [upd_ne hB.2.symm]
          exact g2
    · rintro H3 ⟨cs, hlen, hlow, hB3, k3, D3⟩
      have hl3 := k3 _ _ hl.1 hl.2 nlB (k1 _ _ hl.1 hl.2 hl1)
      refine ⟨l, B, _, _, rfl, rfl, hl3, hB3, ?_, fun wd nwd => ?_⟩
      · rw [sg_length]
        exact small_le (show 1 + cs.length ≤ 1000 by omega)
      have hw := D3.new nwd
      have sw := same_upd (o := .lst ([.str "q"] ++ sg cs)) nwd
      refine ⟨wd, cs, rfl, ?_, (D3.same sw).mono (by omega), ?_, hw.1, hw.2, ?_, by omega, by omega, hlow⟩
      · intro b o n1 n2 e
        refine sw _ _ (k3 b o n1 n2 ?_ (k1 _ _ n1 n2 (sl _ _ e)))
        exact ne_of_none (k1 _ _ n1 n2 (sl _ _ e)) nB
      · cases e : H wd with
        | none => rfl
        | some o =>
          have nb := ne_of_none (k1 _ _ hw.1 hw.2 (sl _ _ e)) nB
          rw [k3 wd o hw.1 hw.2 nb (k1 _ _ hw.1 hw.2 (sl _ _ e))] at nwd
          cases nwd
      · exact upd_same
  rintro σ' H1 ⟨wd, cs, rfl, k1, D1, nwd, hwd, hwc, hw1, c1, c7, hlow⟩
  -- at, first
  refine ⟨.ref d, rfl, .ref wd, rfl, wd, _, rfl, .inl (.inl (.inl hw1)), _, 1, rfl, rfl, d, c, N + 8, ((sg (113 :: cs)).length : Int) - 1, rfl, D1, by omega, ?_, ?_, fun H2 r k2 D2 r0 r1 => ⟨_, _, rfl, rfl, ?_⟩⟩
  · rw [sg_length, List.length_cons]
    omega
  · rw [sg_length, List.length_cons]
    omega
  rw [sg_length, List.length_cons] at r1
  obtain ⟨j, rfl⟩ := Int.eq_ofNat_of_zero_le r0
  have hj : j < cs.length := by omega
  have hw2 := k2 _ _ hwd hwc hw1
  have hcj : (113 :: cs)[j + 1]? = some cs[j] := by
    rw [List.getElem?_cons_succ]
    exact List.getElem?_eq_getElem hj
  have hlj := hlow _ (List.getElem_mem hj)
  obtain ⟨m, hm, hm26⟩ : ∃ m, cs[j] = 97 + m ∧ m < 26 := ⟨cs[j] - 97, by unfold Low at hlj; omega, by unfold Low at hlj; omega⟩
  refine ⟨.str L26, rfl, rfl, .ref wd, rfl, .int (1 + (j : Int)), rfl, wd, _, 1 + (j : Int), .str (sgn (97 + m)), rfl, rfl, .inl (.inl hw2), at_of (j := j + 1) (by omega) (by rw [sg_get hcj, hm]), L26, sgn (97 + m), m, [], rfl, rfl, l26_occ m hm26, ?_⟩
  refine ⟨Nat.zero_le _, fun fo nfo => ?_⟩
  have sf := same_upd (o := .lst []) nfo
  have hfo := D2.new nfo
  have nwf : wd ≠ fo := ne_of_none hw2 nfo
  refine ⟨.int (many : Int), rfl, (many : Int), rfl, by omega, by omega, ?_⟩
  have emany : ((many : Int)).toNat = many := by omega
  rw [emany]
  refine for_range (n := many) (fun i σ H' => ∃ (y3 : Option V) (cs' : List Nat) (zs : List Str), σ = [some (.ref d), some (.int (many : Int)), some (.str L26), y3, some (.ref wd), some (.int (1 + (j : Int))), some (.int (m : Int)), some (.ref fo)] ∧ H' wd = some (.lst (sg (113 :: cs'))) ∧ cs'.length = cs.length ∧ (∀ x, x ∈ cs' → Low x) ∧
      H' fo = some (.lst (zs.map V.str)) ∧ zs.length = i ∧ (∀ z, z ∈ zs → Nm z) ∧ (∀ b o, b ≠ wd → b ≠ fo → H2 b = some o → H' b = some o)) ?_ ?_ ?_
  · refine ⟨none, cs, [], rfl, ?_, rfl, hlow, upd_same, rfl, fun z hz => (nomatch hz), fun b o n1 n2 e => by rw [upd_ne n2]; exact e⟩
    rw [upd_ne nwf]
    exact hw2
  · rintro i σ H3 hi ⟨y3, cs', zs, rfl, hw3, hl3, hlow3, hf3, hz3, hnm3, k3⟩
    have hmod : ∃ t : Nat, ((m : Int) + (0 + (i : Int))) % 26 = (t : Int) ∧ t < 26 := ⟨(m + i) % 26, by omega, Nat.mod_lt _ (by decide)⟩
    obtain ⟨t, ht, ht26⟩ := hmod
    refine ⟨.str L26, rfl, .int (m : Int), rfl, .int (0 + (i : Int)), rfl, _, _, rfl, rfl, _, 26, rfl, rfl, (show (0 : Int) < 26 by decide), L26, (t : Int), 97 + t, rfl, congrArg V.int ht, by rw [l26_len]; decide, atI_nat (l26_at t ht26), ?_⟩
    have hix : ixN (sg (113 :: cs')).length (1 + (j : Int)) = some (j + 1) := by
      unfold ixN
      rw [if_pos (by omega), if_pos (by rw [sg_length, List.length_cons]; omega)]
      exact congrArg some (by omega)
    refine ⟨.ref wd, rfl, .int (1 + (j : Int)), rfl, wd, _, 1 + (j : Int), j + 1, rfl, rfl, hw3, hix, ?_⟩
    have hset : (sg (113 :: cs')).set (j + 1) (.str (sgn (97 + t))) = sg (113 :: cs'.set j (97 + t)) := sg_set _ _ _
    have hw4 : upd H3 wd (.lst ((sg (113 :: cs')).set (j + 1) (.str (sgn (97 + t))))) wd = some (.lst (sg (113 :: cs'.set j (97 + t)))) := by rw [upd_same, hset]
    have hf4 : upd H3 wd (.lst ((sg (113 :: cs')).set (j + 1) (.str (sgn (97 + t))))) fo = some (.lst (zs.map V.str)) := by
      rw [upd_ne nwf.symm]
      exact hf3
    refine ⟨.ref fo, rfl, .inl ⟨rfl, _, .inl (.inl hf4)⟩, ⟨_, rfl⟩, .ref wd, rfl, Str.empty, wd, (113 :: cs'.set j (97 + t)).map sgn, rfl, rfl, .inl (.inl (.inl hw4)), ?_, fo, _, _, rfl, rfl, hf4, ?_, ?_⟩
    · rw [sgn_length, List.length_map, List.length_cons, List.length_set]
      show _ + _ * 0 ≤ _
      omega
    · rw [List.length_map]
      exact small1000 (by omega)
    · refine ⟨_, cs'.set j (97 + t), zs ++ [Txt.join Str.empty ((113 :: cs'.set j (97 + t)).map sgn)], rfl, ?_, by rw [List.length_set]; exact hl3, ?_, ?_, by rw [List.length_append, hz3]; rfl, ?_, ?_⟩
      · rw [upd_ne nwf]
        exact hw4
      · intro x hx
        rcases List.mem_or_eq_of_mem_set hx with hx | rfl
        · exact hlow3 x hx
        · unfold Low
          omega
      · rw [upd_same, List.map_append]
        rfl
      · intro z hz
        rcases List.mem_append.mp hz with hz | hz
        · exact hnm3 z hz
        · rw [List.mem_singleton.mp hz]
          refine nm_signs (cs := cs'.set j (97 + t)) (join_signs _) (by rw [List.length_set]; omega) ?_
          intro x hx
          rcases List.mem_or_eq_of_mem_set hx with hx | rfl
          · exact hlow3 x hx
          · unfold Low
            omega
      · intro b o n1 n2 e
        rw [upd_ne n2, upd_ne n1]
        exact k3 b o n1 n2 e
  · rintro σ H3 ⟨y3, cs', zs, rfl, hw3, hl3, hlow3, hf3, hz3, hnm3, k3⟩
    have nHfo : H fo = none := (k1.trans k2).free nfo hfo.1 hfo.2
    refine ⟨.ref fo, rfl, q H3 fo zs ?_ ?_ nHfo hf3 hz3 hnm3⟩
    · intro b o n1 n2 e
      exact k3 b o (ne_of_none e nwd) (ne_of_none e nHfo) (k2 _ _ n1 n2 (k1 _ _ n1 n2 e))
    · obtain ⟨cells, mm, x, e1, e2, e3, e4, e5⟩ := D2
      exact ⟨cells, mm, x, k3 _ _ hwd.symm hfo.1.symm e1, k3 _ _ hwc.symm hfo.2.symm e2, e3, e4, by omega⟩
end
end L20

namespace L20
open PySem PySem.Spec PyProof.Rows L2 GR
theorem Deck.upd {H : Hp} {d c p : Addr} {N : Int} {o : HO} (D : Deck H d c N) (h1 : p ≠ d) (h2 : p ≠ c) : Deck (L2.upd H p o) d c N := by
  obtain ⟨cells, m, n, e1, e2, e3⟩ := D
  exact ⟨cells, m, n, by rw [upd_ne h1.symm]; exact e1, by rw [upd_ne h2.symm]; exact e2, e3⟩
def wD (tl cl nl : Addr) : List (Key × V) := [(.inr "tables", .ref tl), (.inr "columns", .ref cl), (.inr "names", .ref nl)]
theorem wD_t (tl cl nl : Addr) : valV (wD tl cl nl) (.inr "tables") = some (.ref tl) := valV_pos rfl
theorem wD_c (tl cl nl : Addr) : valV (wD tl cl nl) (.inr "columns") = some (.ref cl) := (valV_neg (show ¬ ((.inr "tables" : Key) = .inr "columns") by decide)).trans (valV_pos rfl)
theorem wD_n (tl cl nl : Addr) : valV (wD tl cl nl) (.inr "names") = some (.ref nl) := (valV_neg (show ¬ ((.inr "tables" : Key) = .inr "names") by decide)).trans ((valV_neg (show ¬ ((.inr "columns" : Key) = .inr "names") by decide)).trans (valV_pos rfl))
/-- the world at u: lists of tables, columns, variables -/
structure Wd (H : Hp) (d c u tl cl nl : Addr) (ts cs ns : List Str) : Prop where
  dct : H u = some (.dK (wD tl cl nl))
  ht : H tl = some (.lst (ts.map V.str))
  hc : H cl = some (.lst (cs.map V.str))
  hn : H nl = some (.lst (ns.map V.str))
  t0 : tl ≠ d ∧ tl ≠ c
  c0 : cl ≠ d ∧ cl ≠ c
  n0 : nl ≠ d ∧ nl ≠ c
  u0 : u ≠ d ∧ u ≠ c
  lt : ts.length = 2
  lc : cs.length = 3
  ln : ns.length = 3
  at' : ∀ z, z ∈ ts → Nm z
  ac : ∀ z, z ∈ cs → Nm z
  an : ∀ z, z ∈ ns → Nm z
theorem Wd.keep {H H' : Hp} {d c u tl cl nl : Addr} {ts cs ns : List Str} (W : Wd H d c u tl cl nl ts cs ns) (k : Keep d c H H') : Wd H' d c u tl cl nl ts cs ns :=
  ⟨k _ _ W.u0.1 W.u0.2 W.dct, k _ _ W.t0.1 W.t0.2 W.ht, k _ _ W.c0.1 W.c0.2 W.hc, k _ _ W.n0.1 W.n0.2 W.hn, W.t0, W.c0, W.n0, W.u0, W.lt, W.lc, W.ln, W.at', W.ac, W.an⟩
theorem in_nm : Nm "in" := nm_lit (by decide)
theorem cut_map (zs : List Str) (lo hi : Option Int) (a b : Nat) (h1 : HT.sIx zs.length 0 lo = a) (h2 : HT.sIx zs.length zs.length hi = b) : cutV (zs.map V.str) lo hi = ((zs.drop a).take (b - a)).map V.str := by
  unfold cutV
  rw [List.length_map, h1, h2, List.map_take, List.map_drop]
section
variable {P : Program} {w : World} {K : PySem.W.Frag} {mg : Str → Option Value} {base : Heap}
abbrev s_law_world : Stmt := topS 22
theorem sc_law_world : FnScope ["_law_deck_here", "_law_names_here"] ["_law_deck_here"] (defScope s_law_world) := ⟨rfl, rfl, rfl, by decide +kernel, rfl, by decide +kernel, by decide +kernel⟩
def sp_world : Sp := fun vs H Q _ => ∃ (d c : Addr) (N : Int), vs = [.ref d] ∧ Deck H d c N ∧ N < 2 ^ 54 ∧
  ∀ H' u tl cl nl ts cs ns, Keep d c H H' → Deck H' d c (N + 30) → H u = none → Wd H' d c u tl cl nl ts cs ns → Q (.ref u) H'
theorem ok_world {f f_law_draw f_law_names : Addr} {fd fd_law_draw fd_law_names : FuncData} {k : Nat} (F : Fun K "_law_world" "_law_world" s_law_world f fd) (G_law_draw : FnOk P w K mg base CX0 k f_law_draw fd_law_draw ["_law_deck_here", "_law_most"] sp_draw)
    (g_law_draw : mg "_law_draw" = some (.ref f_law_draw)) (K_law_draw : PySem.W.keepIn K (.ref f_law_draw) = true) (b_law_draw : Binds K fd_law_draw ["_law_deck_here", "_law_most"] [])
    (G_law_names : FnOk P w K mg base CX0 k f_law_names fd_law_names ["_law_deck_here", "_law_many"] sp_names)
    (g_law_names : mg "_law_names" = some (.ref f_law_names)) (K_law_names : PySem.W.keepIn K (.ref f_law_names) = true) (b_law_names : Binds K fd_law_names ["_law_deck_here", "_law_many"] []) : FnOk P w K mg base CX0 (k + 1) f fd ["_law_deck_here"] sp_world := by
  have nd := sc_law_world.nd
  refine F.ok sc_law_world (fun vs H Q E h => ?_) (fun cdv A outer s H vs Q E hr h => ?_)
  · obtain ⟨d, c, N, rfl, _⟩ := h
    rfl
  obtain ⟨d, c, N, rfl, D, hN, q⟩ := h
  refine ⟨_, (pss_cons (ps_set (i := 1) nd rfl (.inl rfl) (pe_call G_law_names hr (by rfl) g_law_names K_law_names b_law_names .nil pass0 (pa_cons (pv 0) (pa_cons pe_int pa_nil))))
      (Evl.pss_cut (ps_if (pt_cmpR op_eq (pe_call G_law_draw hr (by rfl) g_law_draw K_law_draw b_law_draw .nil pass0 (pa_cons (pv 0) (pa_cons pe_int pa_nil))) pe_int (nomark _))
      (pss_one (ps_asg (pe_ix ix_list (pv 1) pe_int (fun _ _ => rfl)) (pg_sub (pv 1) pe_int set_list)))
      pss_nil)
      (pss_one (ps_ret (pe_disp (pps_cons pe_str (pe_slice sl_list (pv 1) po_none (po_some pe_int)) (pps_cons pe_str (pe_op op_cat (pe_slice sl_list (pv 1) (po_some pe_int) (po_some pe_int)) (pe_lst (pa_cons pe_str pa_nil))) (pps_cons pe_str (pe_slice sl_list (pv 1) (po_some pe_int) po_none) pps_nil))) (by decide) rfl (by simp) (by decide)))))), ?_⟩
  refine ⟨.ref d, rfl, d, c, N, 7, rfl, D, by omega, by decide, fun H1 p zs k1 D1 np hp hlen hnm => ?_⟩
  have hpn : p ≠ d ∧ p ≠ c := by
    obtain ⟨cells, m, n, h1, h2, _⟩ := D
    exact ⟨(ne_of_none h1 np).symm, (ne_of_none h2 np).symm⟩
  refine ⟨fun σ' H' => ∃ zs' : List Str, σ' = [some (.ref d), some (.ref p)] ∧ Keep d c H H' ∧ Deck H' d c (N + 25) ∧ H' p = some (.lst (zs'.map V.str)) ∧ zs'.length = 7 ∧ ∀ z, z ∈ zs' → Nm z, ?_, ?_⟩
  · refine ⟨.ref d, rfl, d, c, _, 4, rfl, D1, by omega, by decide, by decide, fun H2 r k2 D2 r0 r1 => ⟨rfl, _, rfl, ite2 (fun e => ?_) (fun e => ?_)⟩⟩
    · have hp2 := k2 _ _ hpn.1 hpn.2 hp
      have h2 : (zs.map V.str)[2]? = some (.str (zs[2]'(by omega))) := by
        rw [List.getElem?_map, List.getElem?_eq_getElem (by omega)]
        rfl
      refine ⟨.ref p, rfl, p, _, 2, _, rfl, rfl, .inl (.inl hp2), atI_nat (j := 2) h2, .ref p, rfl, p, _, 0, 0, rfl, rfl, hp2, ?_, ?_⟩
      · unfold ixN
        rw [if_pos (by decide), List.length_map, hlen]
        rfl
      rw [← List.map_set]
      refine ⟨_, rfl, fun b o n1 n2 e => ?_, ?_, upd_same, by rw [List.length_set, hlen], fun z hz => ?_⟩
      · rw [upd_ne (ne_of_none e np)]
        exact k2 _ _ n1 n2 (k1 _ _ n1 n2 e)
      · exact (D2.upd hpn.1 hpn.2).mono (by omega)
      · rcases List.mem_or_eq_of_mem_set hz with h | rfl
        · exact hnm z h
        · exact hnm _ (List.getElem_mem _)
    · exact ⟨zs, rfl, k1.trans k2, D2.mono (by omega), k2 _ _ hpn.1 hpn.2 hp, hlen, hnm⟩
  rintro σ' H2 ⟨zs, rfl, k2, D2, hp2, hlen, hnm⟩
  intro u nu
  have su := same_upd (o := .dK []) nu
  have hu := D2.new nu
  refine ⟨.ref p, rfl, 2, rfl, p, _, rfl, .inl (.inl (su _ _ hp2)), fun tl ntl => ?_⟩
  have e1 := cut_map zs none (some 2) 0 2 rfl (by rw [show (some (2 : Int)) = some ((2 : Nat) : Int) from rfl, HT.sIx_nat, hlen]; rfl)
  have e2 := cut_map zs (some 2) (some 4) 2 4 (by rw [show (some (2 : Int)) = some ((2 : Nat) : Int) from rfl, HT.sIx_nat, hlen]; rfl) (by rw [show (some (4 : Int)) = some ((4 : Nat) : Int) from rfl, HT.sIx_nat, hlen]; rfl)
  have e3 := cut_map zs (some 4) none 4 7 (by rw [show (some (4 : Int)) = some ((4 : Nat) : Int) from rfl, HT.sIx_nat, hlen]; rfl) (by rw [HT.sIx_none, hlen])
  rw [e1]
  have s1 := same_upd (o := .lst (((zs.drop 0).take (2 - 0)).map V.str)) ntl
  refine ⟨.ref p, rfl, 2, rfl, 4, rfl, p, _, rfl, .inl (.inl (s1 _ _ (su _ _ hp2))), fun ml nml => ?_⟩
  rw [e2]
  have s2 := same_upd (o := .lst (((zs.drop 2).take (4 - 2)).map V.str)) nml
  refine ⟨small_le (show 1 ≤ 1000 by decide), fun il nil => ?_⟩
  have s3 := same_upd (o := .lst [.str "in"]) nil
  have l2 : ((zs.drop 2).take (4 - 2)).length = 2 := by rw [List.length_take, List.length_drop, hlen]; rfl
  refine ⟨ml, il, _, _, rfl, rfl, s3 _ _ upd_same, upd_same, by rw [List.length_map, l2]; exact small_le (show 3 ≤ 1000 by decide), fun cl ncl => ?_⟩
  have ec : (((zs.drop 2).take (4 - 2)).map V.str) ++ [V.str "in"] = (((zs.drop 2).take (4 - 2)) ++ [("in" : Str)]).map V.str := by rw [List.map_append]; rfl
  rw [ec]
  have s4 := same_upd (o := .lst ((((zs.drop 2).take (4 - 2)) ++ [("in" : Str)]).map V.str)) ncl
  refine ⟨.ref p, rfl, 4, rfl, p, _, rfl, .inl (.inl (s4 _ _ (s3 _ _ (s2 _ _ (s1 _ _ (su _ _ hp2)))))), fun nl nnl => ?_⟩
  rw [e3]
  have s5 := same_upd (o := .lst (((zs.drop 4).take (7 - 4)).map V.str)) nnl
  have s45 := s4.trans s5
  have s25 := s2.trans (s3.trans s45)
  have s15 := s1.trans s25
  have u5 := s15 _ _ (show upd H2 u (.dK []) u = _ from upd_same)
  have t5 := s25 _ _ (show upd (upd H2 u (.dK [])) tl (.lst (((zs.drop 0).take (2 - 0)).map V.str)) tl = _ from upd_same)
  have c5 := s5 _ _ (show upd (upd (upd (upd (upd H2 u (.dK [])) tl (.lst (((zs.drop 0).take (2 - 0)).map V.str))) ml (.lst (((zs.drop 2).take (4 - 2)).map V.str))) il (.lst [.str "in"])) cl (.lst ((((zs.drop 2).take (4 - 2)) ++ [("in" : Str)]).map V.str)) cl = _ from upd_same)
  have n5 : upd (upd (upd (upd (upd (upd H2 u (.dK [])) tl (.lst (((zs.drop 0).take (2 - 0)).map V.str))) ml (.lst (((zs.drop 2).take (4 - 2)).map V.str))) il (.lst [.str "in"])) cl (.lst ((((zs.drop 2).take (4 - 2)) ++ [("in" : Str)]).map V.str))) nl (.lst (((zs.drop 4).take (7 - 4)).map V.str)) nl = _ := upd_same
  have s05 := su.trans s15
  have dtl := D2.new (su.free ntl)
  have dcl := (D2.same (su.trans (s1.trans (s2.trans s3)))).new ncl
  have dnl := (D2.same (su.trans (s1.trans (s2.trans (s3.trans s4))))).new nnl
  clear nnl ncl nil nml ntl s1 s2 s3 s4 s5 s45 s25
  revert u5 t5 c5 n5 s05
  clear s15
  generalize upd (upd (upd (upd (upd (upd H2 u (.dK [])) tl (.lst (((zs.drop 0).take (2 - 0)).map V.str))) ml (.lst (((zs.drop 2).take (4 - 2)).map V.str))) il (.lst [.str "in"])) cl (.lst ((((zs.drop 2).take (4 - 2)) ++ [("in" : Str)]).map V.str))) nl (.lst (((zs.drop 4).take (7 - 4)).map V.str)) = H6
  intro u5 t5 c5 n5 s05
  have tu : tl ≠ u := ne_of t5 u5 (fun z => by cases z)
  have cu : cl ≠ u := ne_of c5 u5 (fun z => by cases z)
  have nu' : nl ≠ u := ne_of n5 u5 (fun z => by cases z)
  have nHu : H u = none := k2.free nu hu.1 hu.2
  refine ⟨u5, wD tl cl nl, rfl, (show 3 ≤ 15 by decide), q _ u tl cl nl ((zs.drop 0).take (2 - 0)) ((zs.drop 2).take (4 - 2) ++ [("in" : Str)]) ((zs.drop 4).take (7 - 4)) (fun b o n1 n2 e => ?_) (((D2.same s05).upd hu.1 hu.2).mono (by omega)) nHu ?_⟩
  · rw [upd_ne (ne_of_none e nHu)]
    exact s05 _ _ (k2 _ _ n1 n2 e)
  · refine ⟨upd_same, by rw [upd_ne tu]; exact t5, by rw [upd_ne cu]; exact c5, by rw [upd_ne nu']; exact n5, dtl, dcl, dnl, hu, by rw [List.length_take, List.length_drop, hlen]; rfl, by rw [List.length_append, l2]; rfl, by rw [List.length_take, List.length_drop, hlen]; rfl, fun z hz => hnm z (List.mem_of_mem_drop (List.mem_of_mem_take hz)), fun z hz => ?_, fun z hz => hnm z (List.mem_of_mem_drop (List.mem_of_mem_take hz))⟩
    rcases List.mem_append.mp hz with h | h
    · exact hnm z (List.mem_of_mem_drop (List.mem_of_mem_take h))
    · rw [List.mem_singleton.mp h]
      exact in_nm
end
end L20

namespace GR
open PySem PySem.Spec PyProof.Rows L2
theorem FnG.mono {P : Program} {w : World} {K : PySem.W.Frag} {mg : Str → Option Value} {base : Heap} {CX : CXT} {j k : Nat} {f : Addr} {fd : FuncData} {ps : List Str} {sp : Sp} (F : FnG P w K mg base CX j f fd ps sp) (h : j ≤ k) : FnG P w K mg base CX k f fd ps sp :=
  ⟨F.size, fun A outer s H args us vs Q E g hr => F.go A outer s H args us vs Q E g (hr.mono h)⟩
/-! ### the signs of what repr shows -/
abbrev SO (x : Str) : Prop := ∀ c, c ∈ x.cps.toList → c < 0x110000
theorem so_iff {x : Str} : PyData.strOk x = true ↔ SO x := by
  unfold PyData.strOk
  rw [Array.all_eq_true']
  constructor
  · intro h c hc
    have := h c (by simpa using hc)
    simpa using this
  · intro h c hc
    have := h c (by simpa using hc)
    simpa using this
theorem so_append {x y : Str} (hx : SO x) (hy : SO y) : SO (x ++ y) := fun c hc => by
  rcases mem_cps_append.mp hc with h | h
  · exact hx c h
  · exact hy c h
theorem so_join {sep : Str} (hs : SO sep) {ts : List Str} (h : ∀ t, t ∈ ts → SO t) : SO (Str.join sep ts) := fun c hc => by
  rcases (mem_join sep c ts).mp hc with ⟨t, ht, hc⟩ | ⟨_, hc⟩
  · exact h t ht c hc
  · exact hs c hc
theorem hex_so (w c : Nat) : ∀ k, k ∈ List.replicate (w - ((Nat.toDigits 16 c).map Char.toNat).length) 48 ++ (Nat.toDigits 16 c).map Char.toNat → k < 0x110000 := by
  intro k hk
  rcases List.mem_append.mp hk with h | h
  · have := List.eq_of_mem_replicate h
    omega
  · obtain ⟨ch, _, rfl⟩ := List.mem_map.mp h
    have := ch.valid
    have e : ch.toNat = ch.val.toNat := rfl
    rcases this with h | ⟨_, h⟩
    · have h' : ch.val.toNat < 0xd800 := h
      omega
    · have h' : ch.val.toNat < 0x110000 := h
      omega
theorem reprChar_so {q c : Nat} (hc : c < 0x110000) : ∀ k, k ∈ Builtin.Str.reprChar q c → k < 0x110000 := by
  intro k hk
  have h8 := hex_so 8 c k
  have h4 := hex_so 4 c k
  have h2 := hex_so 2 c k
  unfold Builtin.Str.reprChar at hk
  dsimp only at hk
  repeat' split at hk
  all_goals first
    | (rcases List.mem_append.mp hk with hk | hk
       · (simp only [List.mem_cons, List.not_mem_nil, or_false] at hk; omega)
       · first | exact h2 hk | exact h4 hk | exact h8 hk)
    | (simp only [List.mem_cons, List.not_mem_nil, or_false] at hk; omega)
theorem fold_so {q : Nat} : ∀ (l : List Nat) (acc : Array Nat), (∀ c, c ∈ l → c < 0x110000) → (∀ c, c ∈ acc.toList → c < 0x110000) → ∀ c, c ∈ (l.foldl (fun out c => out ++ (Builtin.Str.reprChar q c).toArray) acc).toList → c < 0x110000
  | [], acc, _, h => h
  | d :: r, acc, hl, h => by
    rw [List.foldl_cons]
    refine fold_so r _ (fun c hc => hl c (List.mem_cons_of_mem _ hc)) fun c hc => ?_
    rw [Array.toList_append, List.mem_append] at hc
    rcases hc with hc | hc
    · exact h c hc
    · exact reprChar_so (hl d List.mem_cons_self) c (by simpa using hc)
theorem repr_so {x : Str} (h : SO x) : SO (reprText x) := fun c hc => by
  have hq : reprQuote x < 0x110000 := by
    unfold reprQuote
    split <;> decide
  unfold reprText at hc
  have hc' : c ∈ ((x.cps.foldl (fun out c => out ++ (Builtin.Str.reprChar (reprQuote x) c).toArray) #[reprQuote x]).push (reprQuote x)).toList := hc
  rw [Array.toList_push, List.mem_append] at hc'
  rcases hc' with hc' | hc'
  · rw [← Array.foldl_toList] at hc'
    refine fold_so x.cps.toList _ h (fun c hc => ?_) c hc'
    have : c = reprQuote x := by simpa using hc
    rw [this]
    exact hq
  · have : c = reprQuote x := by simpa using hc'
    rw [this]
    exact hq
mutual
theorem shown_so : ∀ d : PyData, d.canLay0 = true → SO d.shown
  | .none, _ => by rw [PyData.shown_none]; decide
  | .bool b, _ => by
    rw [PyData.shown_bool]
    cases b <;> decide
  | .int i, _ => fun c hc => by
    by_cases h : 57 < c
    · exact absurd hc (shown_int_free' (k := c) ⟨by omega, .inr h⟩ i)
    · omega
  | .str x, h => by
    rw [PyData.shown_str]
    exact repr_so (so_iff.mp (by simpa [PyData.canLay0] using h))
  | .list xs, h => by
    rw [PyData.shown_list]
    exact so_append (so_append (by decide) (so_join (by decide) (shownAll_so xs (by simpa [PyData.canLay0] using h)))) (by decide)
  | .tuple xs, h => by
    rw [PyData.shown_tuple]
    refine so_append (so_append (by decide) (so_join (by decide) (shownAll_so xs (by simpa [PyData.canLay0] using h)))) ?_
    split <;> decide
  | .dict _, h => by simp [PyData.canLay0] at h
theorem shownAll_so : ∀ xs : List PyData, PyData.canLayAll0 xs = true → ∀ t, t ∈ PyData.shownAll xs → SO t
  | [], _, t, ht => by rw [PyData.shownAll_nil] at ht; exact absurd ht (by simp)
  | x :: xs, h, t, ht => by
    have h' : x.canLay0 = true ∧ PyData.canLayAll0 xs = true := by simpa [PyData.canLayAll0] using h
    rw [PyData.shownAll_cons, List.mem_cons] at ht
    rcases ht with rfl | ht
    · exact shown_so x h'.1
    · exact shownAll_so xs h'.2 t ht
end
theorem shown_ok {d : PyData} (h : d.canLay0 = true) : PyData.strOk d.shown = true := so_iff.mpr (shown_so d h)
section
variable {X : Cx} {pins : List (Addr × Obj)} {σ : L2.St} {H : Hp} {s : Shared}
/-- repr of a truth -/
def rReprB : List V → Hp → VK → Prop := fun xs H Q => ∃ b, xs = [.bl b] ∧ Q (.str (PyData.bool b).shown) H
theorem call_reprB : CallR X (.builtin "repr") rReprB := by
  intro pins s σ H xs us Q I r h
  obtain ⟨b, rfl, q⟩ := h
  obtain ⟨u, rfl, rv⟩ := vals1 r
  obtain rfl : u = Value.bool b := rv
  rw [PyData.shown_bool] at q
  exact P.repr_of_bool ⟨.str _, H, I.kept fun _ _ e => e, ⟨_, rfl⟩, q⟩
end
end GR

namespace L20
open PySem PySem.Spec PyProof.Rows L2 GR
/-! ### data of tuples, texts and ints -/
mutual
/-- no lists in it -/
def flatD : PyData → Bool
  | .tuple ds => flatDs ds
  | .int _ => true
  | .str _ => true
  | .bool _ => true
  | .none => true
  | _ => false
def flatDs : List PyData → Bool
  | [] => true
  | d :: ds => flatD d && flatDs ds
end
theorem flatDs_of : ∀ {ds : List PyData}, (∀ d, d ∈ ds → flatD d = true) → flatDs ds = true
  | [], _ => by rw [flatDs]
  | d :: ds, h => by
    rw [flatDs, h d List.mem_cons_self, flatDs_of fun x hx => h x (List.mem_cons_of_mem _ hx)]
    rfl
/-- the tuples stay -/
def KeepT (H H' : Hp) : Prop := (∀ b xs, H b = some (.tup xs) → H' b = some (.tup xs)) ∧ ∀ b o xs, H b = some (.frz o (.tup xs)) → H' b = some (.frz o (.tup xs))
theorem KeepT.of {H H' : Hp} (s : Same H H') : KeepT H H' := ⟨fun b xs e => s b _ e, fun b o xs e => s b _ e⟩
theorem KeepT.refl {H : Hp} : KeepT H H := ⟨fun _ _ e => e, fun _ _ _ e => e⟩
theorem KeepT.trans {H H1 H2 : Hp} (a : KeepT H H1) (b : KeepT H1 H2) : KeepT H H2 := ⟨fun x xs e => b.1 x xs (a.1 x xs e), fun x o xs e => b.2 x o xs (a.2 x o xs e)⟩
theorem KeepT.seqt {K : PySem.W.Frag} {H H' : Hp} (s : KeepT H H') {a : Addr} {xs : List V} (h : SqT K H a xs) : SqT K H' a xs := by
  rcases h with (h | ⟨o, h⟩) | h
  · exact .inl (.inl (s.1 _ _ h))
  · exact .inl (.inr ⟨o, s.2 _ _ _ h⟩)
  · exact .inr h
theorem KeepT.upd {H : Hp} {a : Addr} {o : HO} (ha : ∀ xs, H a ≠ some (.tup xs)) (hb : ∀ u xs, H a ≠ some (.frz u (.tup xs))) : KeepT H (L2.upd H a o) := by
  refine ⟨fun b xs e => ?_, fun b u xs e => ?_⟩
  · have : b ≠ a := by
      rintro rfl
      exact ha xs e
    rw [upd_ne this]
    exact e
  · have : b ≠ a := by
      rintro rfl
      exact hb u xs e
    rw [upd_ne this]
    exact e
theorem KeepT.lst {H : Hp} {a : Addr} {ys : List V} {o : HO} (h : H a = some (.lst ys)) : KeepT H (L2.upd H a o) := KeepT.upd (fun xs e => by rw [h] at e; cases e) (fun u xs e => by rw [h] at e; cases e)
theorem KeepT.dk {H : Hp} {a : Addr} {ys : List (Key × V)} {o : HO} (h : H a = some (.dK ys)) : KeepT H (L2.upd H a o) := KeepT.upd (fun xs e => by rw [h] at e; cases e) (fun u xs e => by rw [h] at e; cases e)
theorem KeepT.non {H : Hp} {a : Addr} {o : HO} (h : H a = none) : KeepT H (L2.upd H a o) := KeepT.of (same_upd h)
theorem Keep.t {H H' : Hp} {d c : Addr} {N : Int} (k : Keep d c H H') (D : Deck H d c N) : KeepT H H' := by
  obtain ⟨cells, m, n, h1, h2, _⟩ := D
  exact ⟨fun b xs e => k _ _ (ne_of e h1 (fun z => by cases z)) (ne_of e h2 (fun z => by cases z)) e,
    fun b o xs e => k _ _ (ne_of e h1 (fun z => by cases z)) (ne_of e h2 (fun z => by cases z)) e⟩
mutual
theorem dp_keep {K : PySem.W.Frag} {H H' : Hp} (s : KeepT H H') : ∀ (d : PyData) (v : V), flatD d = true → Dp K H v d → Dp K H' v d
  | .none, _, _, h => by
    cases h
    exact .non
  | .bool b, _, _, h => by
    cases h
    exact .bl b
  | .int i, _, _, h => by
    cases h
    exact .int i
  | .str z, _, _, h => by
    cases h
    exact .str z
  | .tuple ds, _, hf, h => by
    cases h with
    | tup h1 h2 => exact .tup (s.seqt h1) (dp_keepAll s ds _ (by rw [flatD] at hf; exact hf) h2)
  | .list ds, _, hf, h => by simp only [flatD, Bool.false_eq_true] at hf
  | .dict ds, _, hf, h => by cases h
theorem dp_keepAll {K : PySem.W.Frag} {H H' : Hp} (s : KeepT H H') : ∀ (ds : List PyData) (vs : List V), flatDs ds = true → DpAll K H vs ds → DpAll K H' vs ds
  | [], _, _, h => by
    cases h
    exact .nil
  | d :: ds, _, hf, h => by
    rw [flatDs, Bool.and_eq_true] at hf
    cases h with
    | cons h1 h2 => exact .cons (dp_keep s d _ hf.1 h1) (dp_keepAll s ds _ hf.2 h2)
end
theorem dpAll_len {K : PySem.W.Frag} {H : Hp} : ∀ {vs : List V} {ds : List PyData}, DpAll K H vs ds → vs.length = ds.length
  | [], _, h => by
    cases h
    rfl
  | v :: vs, _, h => by
    cases h with
    | cons _ h2 => rw [List.length_cons, List.length_cons, dpAll_len h2]
theorem dpAll_append {K : PySem.W.Frag} {H : Hp} : ∀ {vs us : List V} {ds es : List PyData}, DpAll K H vs ds → DpAll K H us es → DpAll K H (vs ++ us) (ds ++ es)
  | [], _, _, _, h, g => by
    cases h
    exact g
  | v :: vs, _, _, _, h, g => by
    cases h with
    | cons h1 h2 => exact .cons h1 (dpAll_append h2 g)
theorem dpAll_at {K : PySem.W.Frag} {H : Hp} : ∀ {vs : List V} {ds : List PyData} {i : Nat} {v : V}, DpAll K H vs ds → vs[i]? = some v → ∃ d, ds[i]? = some d ∧ Dp K H v d
  | _, _, 0, v, .cons h _, e => by
    cases e
    exact ⟨_, rfl, h⟩
  | _, _, i + 1, v, .cons _ h, e => by
    rw [List.getElem?_cons_succ] at e ⊢
    exact dpAll_at h e
  | _, _, _, _, .nil, e => by simp at e
theorem flatDs_append : ∀ {xs ys : List PyData}, flatDs xs = true → flatDs ys = true → flatDs (xs ++ ys) = true
  | [], _, _, h => h
  | x :: xs, ys, h, g => by
    rw [flatDs, Bool.and_eq_true] at h
    rw [List.cons_append, flatDs, h.1, flatDs_append h.2 g]
    rfl
theorem new_tup {K : PySem.W.Frag} {H : Hp} {vs : List V} {ds : List PyData} {p : Addr} (hd : DpAll K H vs ds) (hf : flatDs ds = true) (np : H p = none) : Dp K (upd H p (.tup vs)) (.ref p) (.tuple ds) := .tup (.inl (.inl upd_same)) (dp_keepAll (KeepT.non np) _ _ hf hd)
/-! ### how long a text is -/
def sl (d : PyData) : Nat := d.shown.length
def sls : List PyData → Nat
  | [] => 0
  | d :: ds => sl d + 2 + sls ds
theorem sls_eq : ∀ ds : List PyData, ((PyData.shownAll ds).map (·.length)).sum + 2 * ds.length = sls ds
  | [] => by simp only [PyData.shownAll, List.map_nil, List.sum_nil, List.length_nil, sls]
  | d :: ds => by
    have := sls_eq ds
    simp only [PyData.shownAll, List.map_cons, List.sum_cons, List.length_cons, sls, sl]
    omega
theorem sls_append : ∀ (xs ys : List PyData), sls (xs ++ ys) = sls xs + sls ys
  | [], ys => by simp only [List.nil_append, sls, Nat.zero_add]
  | x :: xs, ys => by
    have := sls_append xs ys
    simp only [List.cons_append, sls]
    omega
theorem sls_le {b : PyData → Nat} : ∀ {ds : List PyData}, (∀ d, d ∈ ds → sl d + 2 ≤ b d) → sls ds ≤ (ds.map b).sum
  | [], _ => Nat.le_refl _
  | d :: ds, h => by
    have h1 := h d List.mem_cons_self
    have h2 := sls_le fun x hx => h x (List.mem_cons_of_mem _ hx)
    simp only [sls, List.map_cons, List.sum_cons]
    omega
theorem sl_tup (ds : List PyData) : sl (.tuple ds) ≤ sls ds + 3 := by
  have h1 := tupleText_len_le (PyData.shownAll ds)
  have h2 := sls_eq ds
  rw [PyData.shownAll_length] at h1
  unfold sl
  simp only [PyData.shown]
  omega
theorem sl_lst (ds : List PyData) : sl (.list ds) ≤ sls ds + 3 := by
  have h1 := listText_len_le (PyData.shownAll ds)
  have h2 := sls_eq ds
  rw [PyData.shownAll_length] at h1
  unfold sl
  simp only [PyData.shown]
  omega
theorem sl_name {z : Str} (h : Nm z) : sl (.str z) ≤ 82 := by
  obtain ⟨_, h2, h3, _⟩ := h
  have e := StrLaws.reprText_len z fun c hc => Nat.lt_of_le_of_lt (h3 c hc).2 (by decide)
  have e2 : z.length = z.cps.toList.length := by
    rw [Array.length_toList]
    rfl
  unfold sl
  rw [PyData.shown_str]
  omega
theorem int_nat {n : Int} (h1 : -(10 ^ 18) ≤ n) (h2 : n ≤ 10 ^ 18) : n.natAbs ≤ 1000000000000000000 := by omega
theorem int_log {n : Int} (h1 : -(10 ^ 18) ≤ n) (h2 : n ≤ 10 ^ 18) : n.natAbs.log2 < 60 := by
  by_cases e : n.natAbs = 0
  · rw [e]; decide
  · exact (Nat.log2_lt e).mpr (Nat.lt_of_le_of_lt (int_nat h1 h2) (by decide))
theorem sl_int {n : Int} (h1 : -(10 ^ 18) ≤ n) (h2 : n ≤ 10 ^ 18) : sl (.int n) ≤ 20 := by
  have e := int_text_length_le10 (k := 19) (by decide) (Nat.lt_of_le_of_lt (int_nat h1 h2) (by decide : 1000000000000000000 < 10 ^ 19))
  unfold sl
  rw [PyData.shown_int, PySem.ofString_length]
  exact e

theorem words_len : ∀ w, w ∈ (["int", "key", "var", "cell", "if", "+", "-", "*", "<", "=", "at", "count", "sum", "most", "first", "in", "let", "need", "tell", "put", "each"] : List Str) → sl (.str w) ≤ 7 := by
  have : ∀ w, w ∈ (["int", "key", "var", "cell", "if", "+", "-", "*", "<", "=", "at", "count", "sum", "most", "first", "in", "let", "need", "tell", "put", "each"] : List Str) → (reprText w).length ≤ 7 := by decide +kernel
  intro w hw
  unfold sl
  rw [PyData.shown_str]
  exact this w hw
/-! ### what is drawn -/
/-- data of tuples, texts and ints, of a bounded depth and length -/
structure Fine (k m : Nat) (x : PyData) : Prop where
  flat : flatD x = true
  shw : x.showable = true
  dep : x.depth ≤ k
  len : sl x + 2 ≤ m
theorem Fine.mono {k m k' m' : Nat} {x : PyData} (h : Fine k m x) (h1 : k ≤ k') (h2 : m ≤ m') : Fine k' m' x := ⟨h.flat, h.shw, Nat.le_trans h.dep h1, Nat.le_trans h.len h2⟩
theorem Fine.str {z : Str} (h : Nm z) : Fine 0 84 (.str z) := ⟨by simp only [flatD], by simp only [PyData.showable], by simp only [PyData.depth]; omega, by have := sl_name h; omega⟩
theorem Fine.word {w : Str} (h : w ∈ (["int", "key", "var", "cell", "if", "+", "-", "*", "<", "=", "at", "count", "sum", "most", "first", "in", "let", "need", "tell", "put", "each"] : List Str)) : Fine 0 9 (.str w) := ⟨by simp only [flatD], by simp only [PyData.showable], by simp only [PyData.depth]; omega, by have := words_len w h; omega⟩
theorem Fine.int {n : Int} (h1 : -(10 ^ 18) ≤ n) (h2 : n ≤ 10 ^ 18) : Fine 0 22 (.int n) := ⟨by simp only [flatD], by
  have := int_log h1 h2
  simp only [PyData.showable]
  exact decide_eq_true (by omega), by simp only [PyData.depth]; omega, by have := sl_int h1 h2; omega⟩
/-- parts of a tuple, with their lengths in all -/
inductive Fines (k : Nat) : Nat → List PyData → Prop
  | nil : Fines k 0 []
  | cons {m n : Nat} {x : PyData} {xs : List PyData} : Fine k m x → Fines k n xs → Fines k (m + n) (x :: xs)
theorem Fines.all {k n : Nat} {xs : List PyData} (h : Fines k n xs) : flatDs xs = true ∧ PyData.showableAll xs = true ∧ PyData.depthAll xs ≤ k ∧ sls xs ≤ n := by
  induction h with
  | nil => exact ⟨by simp only [flatDs], by simp only [PyData.showableAll], by simp only [PyData.depthAll]; omega, Nat.le_refl _⟩
  | cons h1 _ ih =>
    obtain ⟨a, b, c, d⟩ := ih
    refine ⟨by simp only [flatDs, h1.flat, a, Bool.and_self], by simp only [PyData.showableAll, h1.shw, b, Bool.and_self], ?_, ?_⟩
    · have := h1.dep
      simp only [PyData.depthAll]
      omega
    · have := h1.len
      simp only [sls]
      omega
theorem Fines.tup {k n : Nat} {xs : List PyData} (h : Fines k n xs) : Fine (k + 1) (n + 5) (.tuple xs) := by
  obtain ⟨a, b, c, d⟩ := h.all
  refine ⟨by simp only [flatD, a], by simp only [PyData.showable, b], by simp only [PyData.depth]; omega, ?_⟩
  have := sl_tup xs
  omega
theorem Fine.k0 {k m : Nat} {x : PyData} (h : Fine 0 m x) : Fine k m x := h.mono (Nat.zero_le _) (Nat.le_refl _)
end L20

namespace L20
open PySem PySem.Spec PyProof.Rows L2 GR
/-! ### expressions by their form (a let only where the sign + is told among the names): names of tables and columns among zs, variables among sc, a key only where b -/
abbrev ops5 : List Str := ["+", "-", "*", "<", "="]
abbrev aggk : List (Str × Nat × Nat) := [("count", 0, 0), ("sum", 1, 0), ("most", 1, 1), ("first", 0, 1)]
/-- the X of a plain aggregate -/
def rowX (t : Str) : PyData := .tuple [.str "cell", .str t, .tuple [.str "key"], .str "in"]
inductive Cx (zs sc : List Str) : Bool → Nat → PyData → Prop
  | int (b : Bool) (n : Nat) (i : Int) : -(10 ^ 18) ≤ i → i ≤ 10 ^ 18 → Cx zs sc b (n + 1) (.tuple [.str "int", .int i])
  | let_ (b : Bool) (n : Nat) (i : Int) : ("+" : Str) ∈ zs → 0 ≤ i → i ≤ 10000 → Cx zs sc b (n + 1) (.tuple [.str "let", .int i])
  | key (n : Nat) : Cx zs sc true (n + 1) (.tuple [.str "key"])
  | var (b : Bool) (n : Nat) (z : Str) : z ∈ sc → Cx zs sc b (n + 1) (.tuple [.str "var", .str z])
  | cell (b : Bool) (n : Nat) (t v : Str) (x : PyData) : t ∈ zs → v ∈ zs → Cx zs sc b n x → Cx zs sc b (n + 1) (.tuple [.str "cell", .str t, x, .str v])
  | op (b : Bool) (n : Nat) (o : Str) (x y : PyData) : o ∈ ops5 → Cx zs sc b n x → Cx zs sc b n y → Cx zs sc b (n + 1) (.tuple [.str o, x, y])
  | at_ (b : Bool) (n : Nat) (x y : PyData) : Cx zs sc b n x → Cx zs sc true n y → Cx zs sc b (n + 1) (.tuple [.str "at", x, y])
  | iff (b : Bool) (n : Nat) (x y z : PyData) : Cx zs sc b n x → Cx zs sc b n y → Cx zs sc b n z → Cx zs sc b (n + 1) (.tuple [.str "if", x, y, z])
  | agg (b : Bool) (n : Nat) (o t : Str) (p : PyData) (xs vs ds : List PyData) : 2 ≤ n → (o, vs.length, ds.length) ∈ aggk → t ∈ zs → xs.length ≤ 2 → (∀ x, x ∈ xs → Cx zs sc b 1 x) → Cx zs sc true n p → (∀ x, x ∈ vs → Cx zs sc true n x) → (∀ x, x ∈ ds → Cx zs sc b n x) →
      Cx zs sc b (n + 1) (.tuple (.str o :: .str t :: .tuple xs :: rowX t :: p :: (vs ++ ds)))
theorem Cx.mono {zs sc : List Str} : ∀ {b : Bool} {n m : Nat} {x : PyData}, Cx zs sc b n x → n ≤ m → Cx zs sc b m x := by
  intro b n m x h
  induction h generalizing m with
  | int b n i h1 h2 => intro hm; obtain ⟨k, rfl⟩ : ∃ k, m = k + 1 := ⟨m - 1, by omega⟩; exact .int b k i h1 h2
  | let_ b n i g9 h1 h2 => intro hm; obtain ⟨k, rfl⟩ : ∃ k, m = k + 1 := ⟨m - 1, by omega⟩; exact .let_ b k i g9 h1 h2
  | key n => intro hm; obtain ⟨k, rfl⟩ : ∃ k, m = k + 1 := ⟨m - 1, by omega⟩; exact .key k
  | var b n z h1 => intro hm; obtain ⟨k, rfl⟩ : ∃ k, m = k + 1 := ⟨m - 1, by omega⟩; exact .var b k z h1
  | cell b n t v x h1 h2 _ ih => intro hm; obtain ⟨k, rfl⟩ : ∃ k, m = k + 1 := ⟨m - 1, by omega⟩; exact .cell b k t v x h1 h2 (ih (by omega))
  | op b n o x y h1 _ _ ih1 ih2 => intro hm; obtain ⟨k, rfl⟩ : ∃ k, m = k + 1 := ⟨m - 1, by omega⟩; exact .op b k o x y h1 (ih1 (by omega)) (ih2 (by omega))
  | at_ b n x y _ _ ih1 ih2 => intro hm; obtain ⟨k, rfl⟩ : ∃ k, m = k + 1 := ⟨m - 1, by omega⟩; exact .at_ b k x y (ih1 (by omega)) (ih2 (by omega))
  | iff b n x y z _ _ _ ih1 ih2 ih3 => intro hm; obtain ⟨k, rfl⟩ : ∃ k, m = k + 1 := ⟨m - 1, by omega⟩; exact .iff b k x y z (ih1 (by omega)) (ih2 (by omega)) (ih3 (by omega))
  | agg b n o t p xs vs ds h0 h1 h2 h3 h4 _ _ _ _ ih2 ih3 ih4 => intro hm; obtain ⟨k, rfl⟩ : ∃ k, m = k + 1 := ⟨m - 1, by omega⟩; exact .agg b k o t p xs vs ds (by omega) h1 h2 h3 h4 (ih2 (by omega)) (fun x hx => ih3 x hx (by omega)) (fun x hx => ih4 x hx (by omega))
/-- a key may be allowed -/
theorem Cx.free {zs sc : List Str} {b : Bool} {n : Nat} {x : PyData} (h : Cx zs sc b n x) : Cx zs sc true n x := by
  induction h with
  | int b n i h1 h2 => exact .int true n i h1 h2
  | let_ b n i g9 h1 h2 => exact .let_ true n i g9 h1 h2
  | key n => exact .key n
  | var b n z h1 => exact .var true n z h1
  | cell b n t v x h1 h2 _ ih => exact .cell true n t v x h1 h2 ih
  | op b n o x y h1 _ _ ih1 ih2 => exact .op true n o x y h1 ih1 ih2
  | at_ b n x y _ h2 ih1 _ => exact .at_ true n x y ih1 h2
  | iff b n x y z _ _ _ ih1 ih2 ih3 => exact .iff true n x y z ih1 ih2 ih3
  | agg b n o t p xs vs ds h0 h1 h2 h3 _ h5 h6 _ ih1 _ _ ih4 => exact .agg true n o t p xs vs ds h0 h1 h2 h3 ih1 h5 h6 ih4
/-- more names -/
theorem Cx.wide {zs zs' sc sc' : List Str} (hz : ∀ z, z ∈ zs → z ∈ zs') (hs : ∀ z, z ∈ sc → z ∈ sc') {b : Bool} {n : Nat} {x : PyData} (h : Cx zs sc b n x) : Cx zs' sc' b n x := by
  induction h with
  | int b n i h1 h2 => exact .int b n i h1 h2
  | let_ b n i g9 h1 h2 => exact .let_ b n i (hz _ g9) h1 h2
  | key n => exact .key n
  | var b n z h1 => exact .var b n z (hs _ h1)
  | cell b n t v x h1 h2 _ ih => exact .cell b n t v x (hz _ h1) (hz _ h2) ih
  | op b n o x y h1 _ _ ih1 ih2 => exact .op b n o x y h1 ih1 ih2
  | at_ b n x y _ _ ih1 ih2 => exact .at_ b n x y ih1 ih2
  | iff b n x y z _ _ _ ih1 ih2 ih3 => exact .iff b n x y z ih1 ih2 ih3
  | agg b n o t p xs vs ds h0 h1 h2 h3 _ _ _ _ ih1 ih2 ih3 ih4 => exact .agg b n o t p xs vs ds h0 h1 (hz _ h2) h3 ih1 ih2 ih3 ih4
end L20

namespace L20
open PySem PySem.Spec PyProof.Rows L2 GR
/-- how many draws, how long -/
def dx : Nat → Int
  | 0 => 10
  | n + 1 => 30 + 6 * dx n
theorem dx_pos : ∀ n, 10 ≤ dx n
  | 0 => by simp only [dx]; omega
  | n + 1 => by
    have := dx_pos n
    simp only [dx]
    omega
def em : Nat → Nat
  | 0 => 100
  | n + 1 => 3 * em n + 240
theorem em_pos : ∀ n, 100 ≤ em n
  | 0 => by simp only [em]; omega
  | n + 1 => by
    have := em_pos n
    simp only [em]
    omega
theorem small1000 {n : Nat} (h : n ≤ 1000) : n < sizeLine := by
  have : sizeLine = 16777216 := by decide
  omega
theorem h1000 {n : Nat} (h : n ≤ 1000) : n ≤ sizeLine := small_le h
theorem noSl_str {z : Str} {pos : Pos} {k} : NoSl (.Constant (.str z) k pos) := fun _ _ => rfl
theorem noSl_name {x : Str} {pos : Pos} : NoSl (.Name x pos) := fun _ _ => rfl
theorem iteA {c : Bool} {A B : Prop} (h : A) (h2 : ¬ c = true → B) : if c = true then A else B := by
  split
  · exact h
  · rename_i e
    exact h2 e
def kv4 (a b c e : Addr) : List (Key × V) := [(.inr "count", .ref a), (.inr "sum", .ref b), (.inr "most", .ref c), (.inr "first", .ref e)]
theorem kv4_1 (a b c e : Addr) : valV (mergeK [] (kv4 a b c e)) (.inr "count") = some (.ref a) := valV_pos rfl
theorem kv4_2 (a b c e : Addr) : valV (mergeK [] (kv4 a b c e)) (.inr "sum") = some (.ref b) := (valV_neg (show ¬ ((.inr "count" : Key) = .inr "sum") by decide)).trans (valV_pos rfl)
theorem kv4_3 (a b c e : Addr) : valV (mergeK [] (kv4 a b c e)) (.inr "most") = some (.ref c) := (valV_neg (show ¬ ((.inr "count" : Key) = .inr "most") by decide)).trans ((valV_neg (show ¬ ((.inr "sum" : Key) = .inr "most") by decide)).trans (valV_pos rfl))
theorem kv4_4 (a b c e : Addr) : valV (mergeK [] (kv4 a b c e)) (.inr "first") = some (.ref e) := (valV_neg (show ¬ ((.inr "count" : Key) = .inr "first") by decide)).trans ((valV_neg (show ¬ ((.inr "sum" : Key) = .inr "first") by decide)).trans ((valV_neg (show ¬ ((.inr "most" : Key) = .inr "first") by decide)).trans (valV_pos rfl)))
theorem Fines.append {k m n : Nat} {xs ys : List PyData} (h : Fines k m xs) (g : Fines k n ys) : Fines k (m + n) (xs ++ ys) := by
  induction h with
  | nil => rw [Nat.zero_add]; exact g
  | @cons a b x xs h1 _ ih =>
    rw [Nat.add_assoc]
    exact .cons h1 ih
/-- the names of tables and columns -/
abbrev nms (ts cs : List Str) : List Str := ("in" : Str) :: (ts ++ cs)
/-- one that may be picked -/
def GV (K : PySem.W.Frag) (zs sc : List Str) (b : Bool) (H : Hp) (v : V) : Prop := ∃ x, Dp K H v x ∧ Fine 3 100 x ∧ Cx zs sc b 2 x
theorem GV.keep {K : PySem.W.Frag} {zs sc : List Str} {b : Bool} {H H' : Hp} {v : V} (h : GV K zs sc b H v) (k : KeepT H H') : GV K zs sc b H' v := by
  obtain ⟨x, h1, h2, h3⟩ := h
  exact ⟨x, dp_keep k _ _ h2.flat h1, h2, h3⟩
section
variable {P : Program} {w : World} {K : PySem.W.Frag} {mg : Str → Option Value} {base : Heap}
abbrev s_law_expression : Stmt := topS 23
abbrev N_ex : List Str := ["_law_deck_here", "_law_world_here", "_law_deep", "_law_scope", "_law_loose", "_law_way", "_law_some", "_law_table", "_law_one", "_law_near", "_law_other", "_law_inner", "_law_guard", "_law_word", "_law_name"]
abbrev ps_ex : List Str := ["_law_deck_here", "_law_world_here", "_law_deep", "_law_scope", "_law_loose"]
theorem sc_law_expression : FnScope N_ex ps_ex (defScope s_law_expression) := ⟨rfl, rfl, rfl, by decide +kernel, rfl, by decide +kernel, by decide +kernel⟩
/-- the list of variables that may be used -/
structure Scp (H : Hp) (d c sc : Addr) (scope : List Str) : Prop where
  at' : H sc = some (.lst (scope.map V.str))
  n0 : sc ≠ d ∧ sc ≠ c
  nm : ∀ z, z ∈ scope → Nm z
  len : scope.length ≤ 10
theorem Scp.keep {H H' : Hp} {d c sc : Addr} {scope : List Str} (S : Scp H d c sc scope) (k : Keep d c H H') : Scp H' d c sc scope := ⟨k _ _ S.n0.1 S.n0.2 S.at', S.n0, S.nm, S.len⟩
def sp_expr (K : PySem.W.Frag) (n : Nat) : Sp := fun vs H Q _ => ∃ (d c u tl cl nl sc : Addr) (N deep loose : Int) (ts cs ns scope : List Str), vs = [.ref d, .ref u, .int deep, .ref sc, .int loose] ∧ Deck H d c N ∧ N + dx n < 2 ^ 54 ∧ Wd H d c u tl cl nl ts cs ns ∧ Scp H d c sc scope ∧
  deep ≤ (n : Int) ∧ 0 ≤ loose ∧ loose ≤ 2 ∧ ∀ H' v x, Keep d c H H' → Deck H' d c (N + dx n) → Fine (n + 3) (em n) x → Cx (nms ts cs) scope (decide (0 < loose)) (n + 2) x → Dp K H' v x → Q v H'
/-- tuples of a word and one more -/
theorem tup2 {k m : Nat} {w : Str} {x : PyData} (hw : w ∈ (["int", "key", "var", "cell", "if", "+", "-", "*", "<", "=", "at", "count", "sum", "most", "first", "in", "let", "need", "tell", "put", "each"] : List Str)) (hx : Fine k m x) : Fine (k + 1) (m + 14) (.tuple [.str w, x]) :=
  ((Fines.cons (Fine.word hw).k0 (.cons hx .nil)).tup).mono (Nat.le_refl _) (by omega)
theorem fine_key : Fine 1 14 (.tuple [.str "key"]) := ((Fines.cons (Fine.word (w := "key") (by decide)).k0 .nil).tup).mono (Nat.le_refl _) (by decide)
theorem ok_expr_step {n : Nat} {f f_law_draw f_law_pick : Addr} {fd fd_law_draw fd_law_pick : FuncData} {k : Nat} (F : Fun K "_law_expression" "_law_expression" s_law_expression f fd) (G_law_draw : FnOk P w K mg base CX0 k f_law_draw fd_law_draw ["_law_deck_here", "_law_most"] sp_draw)
    (g_law_draw : mg "_law_draw" = some (.ref f_law_draw)) (K_law_draw : PySem.W.keepIn K (.ref f_law_draw) = true) (b_law_draw : Binds K fd_law_draw ["_law_deck_here", "_law_most"] [])
    (G_law_pick : FnOk P w K mg base CX0 k f_law_pick fd_law_pick ["_law_deck_here", "_law_some"] (sp_pick K))
    (g_law_pick : mg "_law_pick" = some (.ref f_law_pick)) (K_law_pick : PySem.W.keepIn K (.ref f_law_pick) = true) (b_law_pick : Binds K fd_law_pick ["_law_deck_here", "_law_some"] [])
    (G : FnOk P w K mg base CX0 k f fd ps_ex (fun vs H Q E => ∃ m, n = m + 1 ∧ sp_expr K m vs H Q E)) (g : mg "_law_expression" = some (.ref f)) (Kf : PySem.W.keepIn K (.ref f) = true) (b : Binds K fd ps_ex [])
    (mint : mg "int" = none) (mmax : mg "max" = none) : FnOk P w K mg base CX0 (k + 1) f fd ps_ex (sp_expr K n) := by
  have nd := sc_law_expression.nd
  refine F.ok sc_law_expression (fun vs H Q E h => ?_) (fun cdv A outer s H vs Q E hr h => ?_)
  · obtain ⟨d, c, u, tl, cl, nl, sc, N, deep, loose, ts, cs, ns, scope, rfl, _⟩ := h
    rfl
  obtain ⟨d, c, u, tl, cl, nl, sc, N, deep, loose, ts, cs, ns, scope, rfl, D, hN, W, S, hdeep, hl0, hl2, q⟩ := h
  have hp := dx_pos n
  have hu1 : (A.deeper (envOfC "_law_expression" (defScope s_law_expression) s.heap.objs.size f cdv)).units + 1 < cLine := by
    have := hr.units
    omega
  refine ⟨_, (pss_cons (ps_set (i := 5) nd rfl (.inl rfl) (pe_call G_law_draw hr (by rfl) g_law_draw K_law_draw b_law_draw .nil pass0 (pa_cons (pv 0) (pa_cons pe_int pa_nil))))
      (pss_cons (ps_if (PW.pt (pw_or (pt_cmpR op_lt (pv 2) pe_int (nomark _)) (pw_or1 (pt_cmpR op_lt (pv 5) pe_int (nomark _)))))
      (pss_cons (ps_set (i := 6) nd rfl (.inl rfl) (pe_lst (pa_cons (pe_tup (pa_cons pe_str (pa_cons (pe_call G_law_draw hr (by rfl) g_law_draw K_law_draw b_law_draw .nil pass0 (pa_cons (pv 0) (pa_cons pe_int pa_nil))) pa_nil))) (pa_cons (pe_tup (pa_cons pe_str (pa_cons (pe_ix ix_list (pe_lst (pa_cons (pe_op op_sub (pe_call G_law_draw hr (by rfl) g_law_draw K_law_draw b_law_draw .nil pass0 (pa_cons (pv 0) (pa_cons pe_int pa_nil))) pe_int) (pa_cons (pe_op op_pow pe_int pe_int) pa_nil))) (pe_callTy call_int1 (by rfl) mint boot_int (pa_cons (pe_cmpR op_eq (pe_call G_law_draw hr (by rfl) g_law_draw K_law_draw b_law_draw .nil pass0 (pa_cons (pv 0) (pa_cons pe_int pa_nil))) pe_int (nomark _)) pa_nil)) (fun _ _ => rfl)) pa_nil))) pa_nil))))
        (pss_one (ps_ret (pe_call G_law_pick hr (by rfl) g_law_pick K_law_pick b_law_pick .nil pass0 (pa_cons (pv 0) (pa_cons (pe_op op_cat (pe_op op_cat (pv 6) (pe_lc (own := [("_law_name", 14)]) rfl nd (pi_list (pv 3)) (blkOk_by (N := N_ex) (sc := defScope s_law_expression) (by decide +kernel)) (fun _ _ _ _ _ => (pg_name (i := 14) nd rfl (Or.inl rfl))) (fun _ _ _ _ _ => pts_nil) (te := tTup (tCons (tC (.str "var")) (tCons (tVar 14) tNil))) (fun _ _ _ _ _ => (pe_tup (pa_cons pe_str (pa_cons (pv 14) pa_nil)))))) (pe_op op_rep (pe_lst (pa_cons (pe_tup (pa_cons pe_str pa_nil)) pa_nil)) (pe_callTy call_int1 (by rfl) mint boot_int (pa_cons (pe_cmpR op_gt (pv 4) pe_int (nomark _)) pa_nil)))) pa_nil))))))
      pss_nil)
      (pss_cons (ps_set (i := 7) nd rfl (.inl rfl) (pe_call G_law_pick hr (by rfl) g_law_pick K_law_pick b_law_pick .nil pass0 (pa_cons (pv 0) (pa_cons (pe_dget hu1 (pv 1) pe_str noSl_str) pa_nil))))
      (pss_cons (ps_set (i := 8) nd rfl (.inl rfl) (pe_call G hr (by rfl) g Kf b .nil pass0 (pa_cons (pv 0) (pa_cons (pv 1) (pa_cons (pe_op op_sub (pv 2) pe_int) (pa_cons (pv 3) (pa_cons (pv 4) pa_nil)))))))
      (Evl.pss_cut (ps_set (i := 9) nd rfl (.inl rfl) (pe_ifExp (pt_cmpR op_eq (pv 4) pe_int (nomark _)) (pe_call G hr (by rfl) g Kf b .nil pass0 (pa_cons (pv 0) (pa_cons (pv 1) (pa_cons pe_int (pa_cons (pv 3) (pa_cons (pv 4) pa_nil)))))) (pv 8)))
      (pss_cons (ps_if (pt_cmpR op_lt (pv 5) pe_int (nomark _))
      (pss_one (ps_ret (pe_tup (pa_cons pe_str (pa_cons (pv 7) (pa_cons (pv 9) (pa_cons (pe_call G_law_pick hr (by rfl) g_law_pick K_law_pick b_law_pick .nil pass0 (pa_cons (pv 0) (pa_cons (pe_dget hu1 (pv 1) pe_str noSl_str) pa_nil))) pa_nil)))))))
      pss_nil)
      (pss_cons (ps_set (i := 10) nd rfl (.inl rfl) (pe_call G hr (by rfl) g Kf b .nil pass0 (pa_cons (pv 0) (pa_cons (pv 1) (pa_cons (pe_op op_sub (pv 2) pe_int) (pa_cons (pv 3) (pa_cons (pv 4) pa_nil)))))))
      (pss_cons (ps_if (pt_cmpR op_lt (pv 5) pe_int (nomark _))
      (pss_one (ps_ret (pe_tup (pa_cons (pe_call G_law_pick hr (by rfl) g_law_pick K_law_pick b_law_pick .nil pass0 (pa_cons (pv 0) (pa_cons (pe_lst (pa_cons pe_str (pa_cons pe_str (pa_cons pe_str (pa_cons pe_str (pa_cons pe_str (pa_cons pe_str pa_nil))))))) pa_nil))) (pa_cons (pv 8) (pa_cons (pv 10) pa_nil))))))
      pss_nil)
      (pss_cons (ps_set (i := 11) nd rfl (.inl rfl) (pe_call G hr (by rfl) g Kf b .nil pass0 (pa_cons (pv 0) (pa_cons (pv 1) (pa_cons (pe_op op_sub (pv 2) pe_int) (pa_cons (pv 3) (pa_cons (pe_callB (call_max2 rfl) (by rfl) mmax boot_max (pa_cons pe_int (pa_cons (pv 4) pa_nil))) pa_nil)))))))
      (pss_cons (ps_if (pt_cmpR op_eq (pv 5) pe_int (nomark _))
      (pss_one (ps_ret (pe_tup (pa_cons pe_str (pa_cons (pv 9) (pa_cons (pv 11) pa_nil))))))
      pss_nil)
      (pss_cons (ps_if (PW.pt (pw_or (pt_cmpR op_eq (pv 5) pe_int (nomark _)) (pw_or1 (pt_cmpR op_eq (pv 4) pe_int (nomark _)))))
      (pss_one (ps_ret (pe_tup (pa_cons pe_str (pa_cons (pv 8) (pa_cons (pv 10) (pa_cons (pe_call G hr (by rfl) g Kf b .nil pass0 (pa_cons (pv 0) (pa_cons (pv 1) (pa_cons (pe_op op_sub (pv 2) pe_int) (pa_cons (pv 3) (pa_cons (pv 4) pa_nil)))))) pa_nil)))))))
      pss_nil)
      (pss_cons (ps_set (i := 12) nd rfl (.inl rfl) (pe_call G hr (by rfl) g Kf b .nil pass0 (pa_cons (pv 0) (pa_cons (pv 1) (pa_cons (pe_op op_sub (pv 2) pe_int) (pa_cons (pv 3) (pa_cons pe_int pa_nil)))))))
      (pss_cons (ps_set (i := 13) nd rfl (.inl rfl) (pe_call G_law_pick hr (by rfl) g_law_pick K_law_pick b_law_pick .nil pass0 (pa_cons (pv 0) (pa_cons (pe_lst (pa_cons pe_str (pa_cons pe_str (pa_cons pe_str (pa_cons pe_str pa_nil))))) pa_nil))))
      (pss_cons (ps_set (i := 6) nd rfl (.inl rfl) (pe_tup (pa_cons (pv 13) (pa_cons (pv 7) (pa_cons (pe_tup pa_nil) (pa_cons (pe_tup (pa_cons pe_str (pa_cons (pv 7) (pa_cons (pe_tup (pa_cons pe_str pa_nil)) (pa_cons pe_str pa_nil))))) (pa_cons (pv 12) pa_nil)))))))
      (pss_one (ps_ret (pe_op op_catT (pv 6) (pe_dget hu1 (pe_disp (pps_cons pe_str (pe_tup pa_nil) (pps_cons pe_str (pe_tup (pa_cons (pv 11) pa_nil)) (pps_cons pe_str (pe_tup (pa_cons (pv 11) (pa_cons (pv 10) pa_nil))) (pps_cons pe_str (pe_tup (pa_cons (pv 10) pa_nil)) pps_nil)))) (by decide) rfl (by simp) (by decide)) (pv 13) noSl_name)))))))))))))))))), ?_⟩
  have LIM : (10 : Int) ^ 18 = 1000000000000000000 := by decide
  refine ⟨.ref d, rfl, d, c, N, 12, rfl, D, by omega, by decide, by decide, fun H1 way k1 D1 w0 w1 => ?_⟩
  refine ⟨.int deep, rfl, _, _, rfl, rfl, _, rfl, iteA ?leaf (fun e => ⟨.int way, rfl, _, _, rfl, rfl, _, rfl, iteA ?leaf (fun e2 => ?rest)⟩)⟩
  case leaf =>
    have S1 := S.keep k1
    refine ⟨.ref d, rfl, d, c, _, 5, rfl, D1, by omega, by decide, by decide, fun H2 r2 k2 D2 a2 b2 => ⟨h1000 (show 2 ≤ 1000 by decide), fun p1 n1 => ?_⟩⟩
    have g1 : GV K (nms ts cs) scope (decide (0 < loose)) (upd H2 p1 (.tup [.str "int", .int r2])) (.ref p1) := ⟨_, new_tup (.cons (.str "int") (.cons (.int r2) .nil)) rfl n1, (tup2 (by decide) (Fine.int (by omega) (by omega))).mono (by decide) (by decide), .int _ _ _ (by omega) (by omega)⟩
    have s1 := same_upd (o := .tup [.str "int", .int r2]) n1
    have D3 := D2.same s1
    have k3 := (k1.trans k2).trans (Keep.of s1)
    revert g1 D3 k3
    clear s1
    generalize upd H2 p1 (.tup [.str "int", .int r2]) = H3
    intro g1 D3 k3
    refine ⟨.ref d, rfl, d, c, _, 9, rfl, D3, by omega, by decide, by decide, fun H4 r4 k4 D4 a4 b4 => ⟨_, _, rfl, rfl, _, _, rfl, rfl, ?_⟩⟩
    refine ⟨⟨by decide, by decide⟩, h1000 (show 2 ≤ 1000 by decide), fun l nl => ?_⟩
    dsimp only
    rw [show (10 : Int) ^ (18 : Int).toNat = 10 ^ 18 from rfl]
    have sl := same_upd (o := .lst [.int (r4 - 3), .int (10 ^ 18)]) nl
    have hl : upd H4 l (.lst [.int (r4 - 3), .int (10 ^ 18)]) l = some (.lst [.int (r4 - 3), .int (10 ^ 18)]) := upd_same
    have hln := D4.new nl
    have D5 := D4.same sl
    have g4 := (g1.keep (k4.t D3)).keep (KeepT.of sl)
    have k5 := (k3.trans k4).trans (Keep.of sl)
    revert hl D5 g4 k5
    clear sl
    generalize upd H4 l (.lst [.int (r4 - 3), .int (10 ^ 18)]) = H5
    intro hl D5 g4 k5
    refine ⟨.ref d, rfl, d, c, _, 8, rfl, D5, by omega, by decide, by decide, fun H6 r6 k6 D6 a6 b6 => ⟨rfl, .inr ⟨_, rfl, ?_⟩⟩⟩
    have hl6 := k6 _ _ hln.1 hln.2 hl
    have g6 := g4.keep (k6.t D5)
    have k06 := k5.trans k6
    obtain ⟨y, hy1, hy2, hy3⟩ : ∃ y : Int, -(10 ^ 18) ≤ y ∧ y ≤ 10 ^ 18 ∧ atI [V.int (r4 - 3), V.int (10 ^ 18)] (if decide (V.int r6 = V.int 5) = true then 1 else 0) = some (.int y) := by
      by_cases e : V.int r6 = V.int 5
      · rw [decide_eq_true e]
        exact ⟨10 ^ 18, by omega, by omega, at1⟩
      · rw [decide_eq_false e]
        exact ⟨r4 - 3, by omega, by omega, at0⟩
    refine ⟨l, _, _, .int y, rfl, rfl, .inl (.inl hl6), hy3, h1000 (show 2 ≤ 1000 by decide), fun p2 n2 => ⟨h1000 (show 2 ≤ 1000 by decide), fun ls nls => ?_⟩⟩
    have g7 : GV K (nms ts cs) scope (decide (0 < loose)) (upd H6 p2 (.tup [.str "int", .int y])) (.ref p2) := ⟨_, new_tup (.cons (.str "int") (.cons (.int y) .nil)) rfl n2, (tup2 (by decide) (Fine.int hy1 hy2)).mono (by decide) (by decide), .int _ _ _ hy1 hy2⟩
    have s7 := same_upd (o := .tup [.str "int", .int y]) n2
    have s8 := same_upd (o := .lst [.ref p1, .ref p2]) nls
    have hls : upd (upd H6 p2 (.tup [.str "int", .int y])) ls (.lst [.ref p1, .ref p2]) ls = some (.lst [.ref p1, .ref p2]) := upd_same
    have s78 := s7.trans s8
    have g8 := g7.keep (KeepT.of s8)
    have g81 := g6.keep (KeepT.of s78)
    have D8 := D6.same s78
    have k8 := k06.trans (Keep.of s78)
    revert hls g8 g81 D8 k8
    clear s78 s8 s7 g7 nls n2
    generalize upd (upd H6 p2 (.tup [.str "int", .int y])) ls (.lst [.ref p1, .ref p2]) = H8
    intro hls g8 g81 D8 k8
    have S8 := S.keep k8
    refine ⟨.ref d, rfl, .ref ls, rfl, .ref sc, rfl, sc, rfl, ⟨_, .inl (.inl S8.at')⟩, fun B nB => ?_⟩
    have hBd := D8.new nB
    have hBs : sc ≠ B := ne_of_none S8.at' nB
    have hBl : ls ≠ B := ne_of_none hls nB
    refine lc_list (xs := scope.map V.str) (fun i H' => ∃ us, H' B = some (.lst us) ∧ us.length = i ∧ (∀ v, v ∈ us → GV K (nms ts cs) scope (decide (0 < loose)) H' v) ∧ ∀ b ob, b ≠ B → H8 b = some ob → H' b = some ob) ?_ ?_ ?_ ?_
    · exact ⟨[], upd_same, rfl, fun v hv => (nomatch hv), fun b ob nb e => by rw [upd_ne nb]; exact e⟩
    · rintro i H' _ ⟨us, _, _, _, kk⟩
      exact .inl (.inl (kk _ _ hBs S8.at'))
    · rintro i x H9 hx ⟨us, hB, hl9, hg, kk⟩
      rw [List.getElem?_map] at hx
      obtain ⟨z, hz, rfl⟩ := Option.map_eq_some_iff.mp hx
      have hi : i < scope.length := (List.getElem?_eq_some_iff.mp hz).1
      have hsl := S.len
      refine ⟨rfl, yes_then ⟨.str z, rfl, h1000 (show 2 ≤ 1000 by decide), fun pz npz => ?_⟩⟩
      have sz := same_upd (o := .tup [.str "var", .str z]) npz
      have gz : GV K (nms ts cs) scope (decide (0 < loose)) (upd H9 pz (.tup [.str "var", .str z])) (.ref pz) := ⟨_, new_tup (.cons (.str "var") (.cons (.str z) .nil)) rfl npz, (tup2 (by decide) (Fine.str (S.nm z (List.mem_of_getElem? hz)))).mono (by decide) (by decide), .var _ _ _ (List.mem_of_getElem? hz)⟩
      have hB2 := sz _ _ hB
      have kB : KeepT (upd H9 pz (.tup [.str "var", .str z])) (upd (upd H9 pz (.tup [.str "var", .str z])) B (.lst (us ++ [.ref pz]))) := KeepT.lst hB2
      refine ⟨us, hB2, small1000 (by omega), us ++ [.ref pz], upd_same, by rw [List.length_append, hl9]; rfl, fun v hv => ?_, fun b ob nb e => ?_⟩
      · rcases List.mem_append.mp hv with h | h
        · exact ((hg v h).keep (KeepT.of sz)).keep kB
        · rw [List.mem_singleton.mp h]
          exact gz.keep kB
      · rw [upd_ne nb]
        exact sz _ _ (kk b ob nb e)
    · rintro H9 ⟨us, hB, hl9, hg, kk⟩
      rw [List.length_map] at hl9
      have hsl := S.len
      have s89 : Same H8 H9 := fun b ob e => kk b ob (ne_of_none e nB) e
      refine ⟨ls, B, _, _, rfl, rfl, s89 _ _ hls, hB, h1000 (show 2 + us.length ≤ 1000 by omega), fun L1 nL1 => ?_⟩
      have sA := same_upd (o := .lst ([.ref p1, .ref p2] ++ us)) nL1
      have hL1 : upd H9 L1 (.lst ([.ref p1, .ref p2] ++ us)) L1 = some (.lst ([.ref p1, .ref p2] ++ us)) := upd_same
      have hgA : ∀ v, v ∈ [.ref p1, .ref p2] ++ us → GV K (nms ts cs) scope (decide (0 < loose)) (upd H9 L1 (.lst ([.ref p1, .ref p2] ++ us))) v := fun v hv => by
        rcases List.mem_append.mp hv with h | h
        · simp only [List.mem_cons, List.not_mem_nil, or_false] at h
          rcases h with rfl | rfl
          · exact g81.keep (KeepT.of (s89.trans sA))
          · exact g8.keep (KeepT.of (s89.trans sA))
        · exact (hg v h).keep (KeepT.of sA)
      have D9 := D8.same (s89.trans sA)
      have k9 := k8.trans (Keep.of (s89.trans sA))
      have lA : ([V.ref p1, .ref p2] ++ us).length ≤ 12 := by
        rw [List.length_append]
        show 2 + us.length ≤ 12
        omega
      have nA : [V.ref p1, .ref p2] ++ us ≠ [] := List.cons_ne_nil _ _
      revert hL1 hgA D9 k9 lA nA
      clear sA nL1
      generalize [V.ref p1, .ref p2] ++ us = uA
      generalize upd H9 L1 (.lst uA) = H10
      intro hL1 hgA D9 k9 lA nA
      refine ⟨h1000 (show 1 ≤ 1000 by decide), fun pk npk => ⟨h1000 (show 1 ≤ 1000 by decide), fun lk nlk => ⟨.int loose, rfl, _, _, rfl, rfl, .inr ⟨_, rfl, ?_⟩⟩⟩⟩
      have gk : GV K (nms ts cs) scope true (upd H10 pk (.tup [.str "key"])) (.ref pk) := ⟨_, new_tup (.cons (.str "key") .nil) rfl npk, fine_key.mono (by decide) (by decide), .key _⟩
      have sk := same_upd (o := .tup [.str "key"]) npk
      have skl := same_upd (o := .lst [.ref pk]) nlk
      have hlk : upd (upd H10 pk (.tup [.str "key"])) lk (.lst [.ref pk]) lk = some (.lst [.ref pk]) := upd_same
      have gk2 := gk.keep (KeepT.of skl)
      have s10 := sk.trans skl
      revert hlk gk2 s10
      clear sk skl gk nlk npk
      generalize upd (upd H10 pk (.tup [.str "key"])) lk (.lst [.ref pk]) = H11
      intro hlk gk2 s10
      refine ⟨lk, _, _, rfl, rfl, hlk, ?_, ?_, ?_, fun L2 nL2 => ?_⟩
      · split <;> decide
      · split <;> decide
      · split
        · exact h1000 (show 1 * 1 ≤ 1000 by decide)
        · exact h1000 (show 1 * 0 ≤ 1000 by decide)
      have hB1 : ∀ v, v ∈ (List.replicate (if decide (loose > 0) = true then 1 else 0 : Int).toNat [V.ref pk]).flatten → v = V.ref pk ∧ 0 < loose := by
        intro v hv
        split at hv
        · rename_i hl
          exact ⟨by simpa using hv, of_decide_eq_true hl⟩
        · exact absurd hv (by simp)
      have hB2 : (List.replicate (if decide (loose > 0) = true then 1 else 0 : Int).toNat [V.ref pk]).flatten.length ≤ 1 := by
        split
        · exact Nat.le_refl 1
        · exact Nat.zero_le 1
      revert hB1 hB2
      generalize (List.replicate (if decide (loose > 0) = true then 1 else 0 : Int).toNat [V.ref pk]).flatten = uB
      intro hB1 hB2
      have s11 := same_upd (o := .lst uB) nL2
      have hL2 : upd H11 L2 (.lst uB) L2 = some (.lst uB) := upd_same
      have s12 := s10.trans s11
      have g12 := gk2.keep (KeepT.of s11)
      revert hL2 s12 g12
      clear s11 nL2
      generalize upd H11 L2 (.lst uB) = H12
      intro hL2 s12 g12
      refine ⟨L1, L2, _, _, rfl, rfl, s12 _ _ hL1, hL2, h1000 (by omega), fun L3 nL3 => ?_⟩
      have s13 := same_upd (o := .lst (uA ++ uB)) nL3
      have D13 := D9.same (s12.trans s13)
      have k13 := k9.trans (Keep.of (s12.trans s13))
      have h3 := (D9.same s12).new nL3
      refine .inl ⟨d, c, L3, _, uA ++ uB, rfl, D13, by omega, .inl (.inl upd_same), fun e => nA (List.append_eq_nil_iff.mp e).1, by rw [List.length_append]; omega, h3.1, h3.2, fun H14 v k14 D14 hv => ?_⟩
      obtain ⟨x, hx1, hx2, hx3⟩ : GV K (nms ts cs) scope (decide (0 < loose)) (upd H12 L3 (.lst (uA ++ uB))) v := by
        rcases List.mem_append.mp hv with h | h
        · exact (hgA v h).keep (KeepT.of (s12.trans s13))
        · obtain ⟨e1, e2⟩ := hB1 v h
          rw [e1, decide_eq_true e2]
          exact g12.keep (KeepT.of s13)
      exact q H14 v x (k13.trans k14) (D14.mono (by omega)) (hx2.mono (by omega) (em_pos n)) (hx3.mono (by omega)) (dp_keep (k14.t D13) _ _ hx2.flat hx1)
  case rest =>
    have e' : ¬ deep < 1 := by simpa using e
    obtain ⟨m, rfl⟩ : ∃ m, n = m + 1 := ⟨n - 1, by omega⟩
    have hdx : dx (m + 1) = 30 + 6 * dx m := rfl
    have hem : em (m + 1) = 3 * em m + 240 := rfl
    have hpm := dx_pos m
    have hme := em_pos m
    have W1 := W.keep k1
    -- the table
    refine ⟨.ref d, rfl, .ref u, rfl, u, .ref tl, rfl, ?_, .inl ⟨d, c, tl, _, _, rfl, D1, by omega, .inl (.inl W1.ht), ?_, ?_, W1.t0.1, W1.t0.2, fun H2 vt k2 D2 hvt => ?_⟩⟩
    · rw [← wD_t tl cl nl]
      exact DGet.k (k := .inr "tables") W1.dct
    · intro e
      have := congrArg List.length e
      rw [List.length_map, W.lt] at this
      cases this
    · rw [List.length_map, W.lt]
      decide
    obtain ⟨t, ht, rfl⟩ := List.mem_map.mp hvt
    have ft := Fine.str (W.at' t ht)
    have k02 := k1.trans k2
    -- one
    refine ⟨.ref d, rfl, .ref u, rfl, .int deep, rfl, deep, 1, rfl, rfl, .ref sc, rfl, .int loose, rfl, m, rfl, d, c, u, tl, cl, nl, sc, _, deep - 1, loose, ts, cs, ns, scope, rfl, D2, by omega, W.keep k02, S.keep k02, by omega, hl0, hl2, fun H3 v1 x1 k3 D3x f1 c1 p1 => ?_⟩
    have k03 := k02.trans k3
    -- near
    refine ⟨fun σ' H' => ∃ vn xn, σ' = [some (.ref d), some (.ref u), some (.int deep), some (.ref sc), some (.int loose), some (.int way), none, some (.str t), some v1, some vn, none, none, none, none, none] ∧ Keep d c H H' ∧ Deck H' d c (N + 2 + 2 * dx m) ∧ Dp K H' v1 x1 ∧ Dp K H' vn xn ∧ Fine (m + 3) (em m) xn ∧ Cx (nms ts cs) scope (decide (0 < loose)) (m + 2) xn, ?_, ?_⟩
    · refine ⟨.int loose, rfl, rfl, _, rfl, ite2 (fun e3 => ?_) (fun e3 => ?_)⟩
      · refine ⟨.ref d, rfl, .ref u, rfl, .ref sc, rfl, .int loose, rfl, m, rfl, d, c, u, tl, cl, nl, sc, _, 0, loose, ts, cs, ns, scope, rfl, D3x, by omega, W.keep k03, S.keep k03, by omega, hl0, hl2, fun H4 vn xn k4 D4 fn cn pn => ?_⟩
        exact ⟨vn, xn, rfl, k03.trans k4, D4.mono (by omega), dp_keep (k4.t D3x) _ _ f1.flat p1, pn, fn, cn⟩
      · exact ⟨v1, rfl, v1, x1, rfl, k03, D3x.mono (by omega), p1, p1, f1, c1⟩
    rintro σ' H4 ⟨vn, xn, rfl, k04, D4, p14, pn4, fn, cn⟩
    have W4 := W.keep k04
    have S4 := S.keep k04
    -- a cell
    refine ⟨.int way, rfl, _, _, rfl, rfl, _, rfl, ite2 (fun e4 => ?_) (fun e4 => ?_)⟩
    · refine ⟨.str t, rfl, vn, rfl, .ref d, rfl, .ref u, rfl, u, .ref cl, rfl, ?_, .inl ⟨d, c, cl, _, _, rfl, D4, by omega, .inl (.inl W4.hc), ?_, ?_, W4.c0.1, W4.c0.2, fun H5 vc k5 D5 hvc => ?_⟩⟩
      · rw [← wD_c tl cl nl]
        exact DGet.k (k := .inr "columns") W4.dct
      · intro e
        have := congrArg List.length e
        rw [List.length_map, W.lc] at this
        cases this
      · rw [List.length_map, W.lc]
        decide
      obtain ⟨z, hz, rfl⟩ := List.mem_map.mp hvc
      have fz := Fine.str (W.ac z hz)
      refine ⟨h1000 (show 4 ≤ 1000 by decide), fun p np => ?_⟩
      have s6 := same_upd (o := .tup [.str "cell", .str t, vn, .str z]) np
      have pn5 := dp_keep (k5.t D4) _ _ fn.flat pn4
      have F := (Fines.cons (Fine.word (w := "cell") (by decide)).k0 (.cons ft.k0 (.cons fn (.cons fz.k0 .nil)))).tup
      exact q _ _ _ ((k04.trans k5).trans (Keep.of s6)) ((D5.same s6).mono (by omega)) (F.mono (by omega) (by omega)) (.cell _ _ _ _ _ (List.mem_cons_of_mem _ (List.mem_append_left _ ht)) (List.mem_cons_of_mem _ (List.mem_append_right _ hz)) cn) (new_tup (.cons (.str _) (.cons (.str _) (.cons pn5 (.cons (.str _) .nil)))) (by simp only [flatDs, flatD, fn.flat, Bool.and_self]) np)
    -- the other
    refine ⟨.ref d, rfl, .ref u, rfl, .int deep, rfl, deep, 1, rfl, rfl, .ref sc, rfl, .int loose, rfl, m, rfl, d, c, u, tl, cl, nl, sc, _, deep - 1, loose, ts, cs, ns, scope, rfl, D4, by omega, W4, S4, by omega, hl0, hl2, fun H5 v2 x2 k5 D5 f2 c2 p2 => ?_⟩
    have k05 := k04.trans k5
    have p15 := dp_keep (k5.t D4) _ _ f1.flat p14
    have pn5 := dp_keep (k5.t D4) _ _ fn.flat pn4
    refine ⟨.int way, rfl, _, _, rfl, rfl, _, rfl, ite2 (fun e5 => ?_) (fun e5 => ?_)⟩
    · refine ⟨.ref d, rfl, h1000 (show 6 ≤ 1000 by decide), fun l nl => ?_⟩
      have sl := same_upd (o := .lst [.str "+", .str "-", .str "*", .str "<", .str "=", .str "+"]) nl
      have hln := D5.new nl
      refine .inl ⟨d, c, l, _, [.str "+", .str "-", .str "*", .str "<", .str "=", .str "+"], rfl, D5.same sl, by omega, .inl (.inl upd_same), List.cons_ne_nil _ _, (show 6 ≤ 1000 by decide), hln.1, hln.2, fun H6 vo k6 D6 hvo => ?_⟩
      obtain ⟨o, ho, ho5, rfl⟩ : ∃ o : Str, o ∈ (["int", "key", "var", "cell", "if", "+", "-", "*", "<", "=", "at", "count", "sum", "most", "first", "in", "let", "need", "tell", "put", "each"] : List Str) ∧ o ∈ ops5 ∧ vo = .str o := by
        simp only [List.mem_cons, List.not_mem_nil, or_false] at hvo
        rcases hvo with rfl | rfl | rfl | rfl | rfl | rfl
        · exact ⟨_, by decide, by decide, rfl⟩
        · exact ⟨_, by decide, by decide, rfl⟩
        · exact ⟨_, by decide, by decide, rfl⟩
        · exact ⟨_, by decide, by decide, rfl⟩
        · exact ⟨_, by decide, by decide, rfl⟩
        · exact ⟨_, by decide, by decide, rfl⟩
      have kt6 := (KeepT.of sl).trans (k6.t (D5.same sl))
      refine ⟨v1, rfl, v2, rfl, h1000 (show 3 ≤ 1000 by decide), fun p np => ?_⟩
      have s7 := same_upd (o := .tup [.str o, v1, v2]) np
      have F := (Fines.cons (Fine.word ho).k0 (.cons f1 (.cons f2 .nil))).tup
      exact q _ _ _ ((k05.trans (Keep.of sl)).trans (k6.trans (Keep.of s7))) ((D6.same s7).mono (by omega)) (F.mono (by omega) (by omega)) (.op _ _ _ _ _ ho5 c1 c2) (new_tup (.cons (.str _) (.cons (dp_keep kt6 _ _ f1.flat p15) (.cons (dp_keep kt6 _ _ f2.flat p2) .nil))) (by simp only [flatDs, flatD, f1.flat, f2.flat, Bool.and_self]) np)
    -- the inner one
    have W5 := W.keep k05
    have S5 := S.keep k05
    refine ⟨.ref d, rfl, .ref u, rfl, .int deep, rfl, deep, 1, rfl, rfl, .ref sc, rfl, .int loose, rfl, _, _, rfl, m, rfl, d, c, u, tl, cl, nl, sc, _, deep - 1, _, ts, cs, ns, scope, rfl, D5, by omega, W5, S5, by omega, ?_, ?_, fun H6 v3 x3 k6 D6 f3 c3 p3 => ?_⟩
    · split <;> omega
    · split <;> omega
    have c3t : Cx (nms ts cs) scope true (m + 2) x3 := c3.free
    have k06 := k05.trans k6
    have p16 := dp_keep (k6.t D5) _ _ f1.flat p15
    have pn6 := dp_keep (k6.t D5) _ _ fn.flat pn5
    have p26 := dp_keep (k6.t D5) _ _ f2.flat p2
    refine ⟨.int way, rfl, rfl, _, rfl, ite2 (fun e6 => ?_) (fun e6 => ?_)⟩
    · refine ⟨vn, rfl, v3, rfl, h1000 (show 3 ≤ 1000 by decide), fun p np => ?_⟩
      have s7 := same_upd (o := .tup [.str "at", vn, v3]) np
      have F := (Fines.cons (Fine.word (w := "at") (by decide)).k0 (.cons fn (.cons f3 .nil))).tup
      exact q _ _ _ (k06.trans (Keep.of s7)) ((D6.same s7).mono (by omega)) (F.mono (by omega) (by omega)) (.at_ _ _ _ _ cn c3t) (new_tup (.cons (.str _) (.cons pn6 (.cons p3 .nil))) (by simp only [flatDs, flatD, fn.flat, f3.flat, Bool.and_self]) np)
    refine ⟨.int way, rfl, rfl, _, rfl, iteA ?aif (fun e7 => ⟨.int loose, rfl, rfl, _, rfl, iteA ?aif (fun e8 => ?agg)⟩)⟩
    case aif =>
      refine ⟨v1, rfl, v2, rfl, .ref d, rfl, .ref u, rfl, .int deep, rfl, deep, 1, rfl, rfl, .ref sc, rfl, .int loose, rfl, m, rfl, d, c, u, tl, cl, nl, sc, _, deep - 1, loose, ts, cs, ns, scope, rfl, D6, by omega, W.keep k06, S.keep k06, by omega, hl0, hl2, fun H7 v4 x4 k7 D7 f4 c4 p4 => ⟨h1000 (show 4 ≤ 1000 by decide), fun p np => ?_⟩⟩
      have s8 := same_upd (o := .tup [.str "if", v1, v2, v4]) np
      have F := (Fines.cons (Fine.word (w := "if") (by decide)).k0 (.cons f1 (.cons f2 (.cons f4 .nil)))).tup
      exact q _ _ _ ((k06.trans k7).trans (Keep.of s8)) ((D7.same s8).mono (by omega)) (F.mono (by omega) (by omega)) (.iff _ _ _ _ _ c1 c2 c4) (new_tup (.cons (.str _) (.cons (dp_keep (k7.t D6) _ _ f1.flat p16) (.cons (dp_keep (k7.t D6) _ _ f2.flat p26) (.cons p4 .nil)))) (by simp only [flatDs, flatD, f1.flat, f2.flat, f4.flat, Bool.and_self]) np)
    case agg =>
      refine ⟨.ref d, rfl, .ref u, rfl, .int deep, rfl, deep, 2, rfl, rfl, .ref sc, rfl, m, rfl, d, c, u, tl, cl, nl, sc, _, deep - 2, 1, ts, cs, ns, scope, rfl, D6, by omega, W.keep k06, S.keep k06, by omega, by decide, by decide, fun H7 v5 x5 k7 D7 f5 c5 p5 => ?_⟩
      have k07 := k06.trans k7
      have p27 := dp_keep (k7.t D6) _ _ f2.flat p26
      have p37 := dp_keep (k7.t D6) _ _ f3.flat p3
      refine ⟨.ref d, rfl, h1000 (show 4 ≤ 1000 by decide), fun l nl => ?_⟩
      have sl := same_upd (o := .lst [.str "count", .str "sum", .str "most", .str "first"]) nl
      have hln := D7.new nl
      refine .inl ⟨d, c, l, _, [.str "count", .str "sum", .str "most", .str "first"], rfl, D7.same sl, by omega, .inl (.inl upd_same), List.cons_ne_nil _ _, (show 4 ≤ 1000 by decide), hln.1, hln.2, fun H8 vo k8 D8 hvo => ?_⟩
      have kt8 := (KeepT.of sl).trans (k8.t (D7.same sl))
      have k08 := (k07.trans (Keep.of sl)).trans k8
      have p28 := dp_keep kt8 _ _ f2.flat p27
      have p38 := dp_keep kt8 _ _ f3.flat p37
      have p58 := dp_keep kt8 _ _ f5.flat p5
      obtain ⟨o, ho4, rfl⟩ : ∃ o : Str, (o = "count" ∨ o = "sum" ∨ o = "most" ∨ o = "first") ∧ vo = .str o := by
        simp only [List.mem_cons, List.not_mem_nil, or_false] at hvo
        rcases hvo with rfl | rfl | rfl | rfl
        · exact ⟨_, .inl rfl, rfl⟩
        · exact ⟨_, .inr (.inl rfl), rfl⟩
        · exact ⟨_, .inr (.inr (.inl rfl)), rfl⟩
        · exact ⟨_, .inr (.inr (.inr rfl)), rfl⟩
      have ho : o ∈ (["int", "key", "var", "cell", "if", "+", "-", "*", "<", "=", "at", "count", "sum", "most", "first", "in", "let", "need", "tell", "put", "each"] : List Str) := by
        rcases ho4 with rfl | rfl | rfl | rfl <;> decide
      refine ⟨.str o, rfl, .str t, rfl, Nat.zero_le _, fun z0 m0 => ⟨.str t, rfl, h1000 (show 1 ≤ 1000 by decide), fun z1 m1 => ⟨h1000 (show 4 ≤ 1000 by decide), fun z2 m2 => ⟨v5, rfl, h1000 (show 5 ≤ 1000 by decide), fun z3 m3 => ?_⟩⟩⟩⟩
      have t0 := same_upd (o := .tup []) m0
      have t1 := same_upd (o := .tup [.str "key"]) m1
      have t2 := same_upd (o := .tup [.str "cell", .str t, .ref z1, .str "in"]) m2
      have t3 := same_upd (o := .tup [.str o, .str t, .ref z0, .ref z2, v5]) m3
      have b0 : Dp K (upd H8 z0 (.tup [])) (.ref z0) (.tuple []) := .tup (.inl (.inl upd_same)) .nil
      have b1 := new_tup (K := K) (.cons (.str "key") .nil) rfl m1
      have b2 := new_tup (K := K) (.cons (.str "cell") (.cons (.str t) (.cons b1 (.cons (.str "in") .nil)))) rfl m2
      have b0' := dp_keep (KeepT.of ((t1.trans t2).trans t3)) _ _ rfl b0
      have b2' := dp_keep (KeepT.of t3) _ _ rfl b2
      have t03 := ((t0.trans t1).trans t2).trans t3
      have hz3 : upd (upd (upd (upd H8 z0 (.tup [])) z1 (.tup [.str "key"])) z2 (.tup [.str "cell", .str t, .ref z1, .str "in"])) z3 (.tup [.str o, .str t, .ref z0, .ref z2, v5]) z3 = some (.tup [.str o, .str t, .ref z0, .ref z2, v5]) := upd_same
      clear t0 t1 t2 t3 b0 b1 b2 m0 m1 m2 m3
      revert b0' b2' t03 hz3
      generalize upd (upd (upd (upd H8 z0 (.tup [])) z1 (.tup [.str "key"])) z2 (.tup [.str "cell", .str t, .ref z1, .str "in"])) z3 (.tup [.str o, .str t, .ref z0, .ref z2, v5]) = H9
      intro b0' b2' t03 hz3
      have p29 := dp_keep (KeepT.of t03) _ _ f2.flat p28
      have p39 := dp_keep (KeepT.of t03) _ _ f3.flat p38
      have p59 := dp_keep (KeepT.of t03) _ _ f5.flat p58
      have k09 := k08.trans (Keep.of t03)
      have D9 := D8.same t03
      refine ⟨.ref z3, rfl, fun pd npd => ⟨Nat.zero_le _, fun y0 j0 => ⟨v3, rfl, h1000 (show 1 ≤ 1000 by decide), fun y1 j1 => ⟨v3, rfl, v2, rfl, h1000 (show 2 ≤ 1000 by decide), fun y2 j2 => ⟨v2, rfl, h1000 (show 1 ≤ 1000 by decide), fun y3 j3 => ?_⟩⟩⟩⟩⟩
      have r0 := same_upd (o := .dK []) npd
      have r1 := same_upd (o := .tup []) j0
      have r2 := same_upd (o := .tup [v3]) j1
      have r3 := same_upd (o := .tup [v3, v2]) j2
      have r4 := same_upd (o := .tup [v2]) j3
      have r14 := ((r1.trans r2).trans r3).trans r4
      have hpd := r14 _ _ (show upd H9 pd (.dK []) pd = _ from upd_same)
      have a0 := ((r2.trans r3).trans r4) _ _ (show upd (upd H9 pd (.dK [])) y0 (.tup []) y0 = _ from upd_same)
      have a1 := (r3.trans r4) _ _ (show upd (upd (upd H9 pd (.dK [])) y0 (.tup [])) y1 (.tup [v3]) y1 = _ from upd_same)
      have a2 := r4 _ _ (show upd (upd (upd (upd H9 pd (.dK [])) y0 (.tup [])) y1 (.tup [v3])) y2 (.tup [v3, v2]) y2 = _ from upd_same)
      have a3 : upd (upd (upd (upd (upd H9 pd (.dK [])) y0 (.tup [])) y1 (.tup [v3])) y2 (.tup [v3, v2])) y3 (.tup [v2]) y3 = _ := upd_same
      have r04 := r0.trans r14
      clear r0 r1 r2 r3 r4 r14 j0 j1 j2 j3
      revert hpd a0 a1 a2 a3 r04
      generalize upd (upd (upd (upd (upd H9 pd (.dK [])) y0 (.tup [])) y1 (.tup [v3])) y2 (.tup [v3, v2])) y3 (.tup [v2]) = H10
      intro hpd a0 a1 a2 a3 r04
      have r05 : Same H9 (upd H10 pd (.dK (mergeK [] (kv4 y0 y1 y2 y3)))) := fun b ob e => by
        rw [upd_ne (ne_of_none e npd)]
        exact r04 _ _ e
      have tu : ∀ (b : Addr) (xs : List V), H10 b = some (.tup xs) → upd H10 pd (.dK (mergeK [] (kv4 y0 y1 y2 y3))) b = some (.tup xs) := fun b xs e => by
        rw [upd_ne (ne_of e hpd (fun z => by cases z))]
        exact e
      have hpd2 : upd H10 pd (.dK (mergeK [] (kv4 y0 y1 y2 y3))) pd = some (.dK (mergeK [] (kv4 y0 y1 y2 y3))) := upd_same
      have a0' := tu _ _ a0
      have a1' := tu _ _ a1
      have a2' := tu _ _ a2
      have a3' := tu _ _ a3
      refine ⟨hpd, kv4 y0 y1 y2 y3, rfl, (show 4 ≤ 15 by decide), .str o, rfl, ?_⟩
      clear tu a0 a1 a2 a3 r04
      revert r05 hpd2 a0' a1' a2' a3'
      generalize upd H10 pd (.dK (mergeK [] (kv4 y0 y1 y2 y3))) = H11
      intro r05 hpd2 a0' a1' a2' a3'
      have z11 := r05 _ _ hz3
      have q0 := dp_keep (KeepT.of r05) _ _ rfl b0'
      have q2 := dp_keep (KeepT.of r05) _ _ rfl b2'
      have q5 := dp_keep (KeepT.of r05) _ _ f5.flat p59
      have q3 := dp_keep (KeepT.of r05) _ _ f3.flat p39
      have q2' := dp_keep (KeepT.of r05) _ _ f2.flat p29
      have k11 := k09.trans (Keep.of r05)
      have D11 := D9.same r05
      obtain ⟨yo, vs, ds, L, va, da, hval, hyo, hds, hfs, hL, hvl, hsp, hak, hva, hda⟩ : ∃ (yo : Addr) (vs : List V) (ds : List PyData) (L : Nat) (va da : List PyData), valV (mergeK [] (kv4 y0 y1 y2 y3)) (.inr o) = some (.ref yo) ∧ H11 yo = some (.tup vs) ∧ DpAll K H11 vs ds ∧ Fines (m + 3) L ds ∧ L ≤ 2 * em m ∧ vs.length ≤ 2 ∧ ds = va ++ da ∧ (o, va.length, da.length) ∈ aggk ∧ (∀ x, x ∈ va → Cx (nms ts cs) scope true (m + 2) x) ∧ (∀ x, x ∈ da → Cx (nms ts cs) scope (decide (0 < loose)) (m + 2) x) := by
        rcases ho4 with rfl | rfl | rfl | rfl
        · exact ⟨y0, [], [], 0, [], [], kv4_1 _ _ _ _, a0', .nil, .nil, Nat.zero_le _, Nat.zero_le _, rfl, by decide, (fun x hx => (nomatch hx)), (fun x hx => (nomatch hx))⟩
        · exact ⟨y1, _, [x3], _, [x3], [], kv4_2 _ _ _ _, a1', .cons q3 .nil, .cons f3 .nil, by omega, (show 1 ≤ 2 by decide), rfl, (show (("sum" : Str), 1, 0) ∈ aggk by decide), (fun x hx => by rw [List.mem_singleton.mp hx]; exact c3t), (fun x hx => (nomatch hx))⟩
        · exact ⟨y2, _, [x3, x2], _, [x3], [x2], kv4_3 _ _ _ _, a2', .cons q3 (.cons q2' .nil), .cons f3 (.cons f2 .nil), by omega, Nat.le_refl _, rfl, (show (("most" : Str), 1, 1) ∈ aggk by decide), (fun x hx => by rw [List.mem_singleton.mp hx]; exact c3t), (fun x hx => by rw [List.mem_singleton.mp hx]; exact c2)⟩
        · exact ⟨y3, _, [x2], _, [], [x2], kv4_4 _ _ _ _, a3', .cons q2' .nil, .cons f2 .nil, by omega, (show 1 ≤ 2 by decide), rfl, (show (("first" : Str), 0, 1) ∈ aggk by decide), (fun x hx => (nomatch hx)), (fun x hx => by rw [List.mem_singleton.mp hx]; exact c2)⟩
      have CA := Cx.agg (zs := nms ts cs) (sc := scope) (decide (0 < loose)) (m + 2) o t x5 [] va da (by omega) hak (List.mem_cons_of_mem _ (List.mem_append_left _ ht)) (Nat.zero_le _) (fun x hx => (nomatch hx)) c5.free hva hda
      refine ⟨pd, .ref yo, rfl, by rw [← hval]; exact DGet.k (k := .inr o) hpd2, ?_⟩
      have fX : Fine 2 121 (.tuple [.str "cell", .str t, .tuple [.str "key"], .str "in"]) := ((Fines.cons (Fine.word (w := "cell") (by decide)).k0 (.cons ft.k0 (.cons fine_key (.cons (Fine.word (w := "in") (by decide)).k0 .nil)))).tup).mono (Nat.le_refl _) (by decide)
      have fE : Fine 1 5 (.tuple []) := (Fines.nil (k := 0)).tup
      have FS : Fines (m + 3) (9 + (84 + (5 + (121 + (em m + 0))))) [.str o, .str t, .tuple [], .tuple [.str "cell", .str t, .tuple [.str "key"], .str "in"], x5] := .cons (Fine.word ho).k0 (.cons ft.k0 (.cons (fE.mono (by omega) (Nat.le_refl _)) (.cons (fX.mono (by omega) (Nat.le_refl _)) (.cons f5 .nil))))
      have FA := (FS.append hfs).tup
      have dS : DpAll K H11 [.str o, .str t, .ref z0, .ref z2, v5] [.str o, .str t, .tuple [], .tuple [.str "cell", .str t, .tuple [.str "key"], .str "in"], x5] := .cons (.str _) (.cons (.str _) (.cons q0 (.cons q2 (.cons q5 .nil))))
      refine ⟨z3, yo, _, _, rfl, rfl, .inl (.inl z11), .inl (.inl hyo), List.cons_ne_nil _ _, h1000 (show 5 + vs.length ≤ 1000 by omega), fun e => ?_, fun _ p np => ?_⟩
      · obtain rfl : ds = [] := by
          rw [e] at hds
          cases hds
          rfl
        rw [List.append_nil] at FA
        rw [← hsp] at CA
        exact q _ _ _ k11 (D11.mono (by omega)) (FA.mono (by omega) (by omega)) CA (.tup (.inl (.inl z11)) dS)
      · have s12 := same_upd (o := .tup ([.str o, .str t, .ref z0, .ref z2, v5] ++ vs)) np
        have hfA := FA.flat
        rw [flatD] at hfA
        rw [← hsp] at CA
        exact q _ _ _ (k11.trans (Keep.of s12)) ((D11.same s12).mono (by omega)) (FA.mono (by omega) (by omega)) CA (new_tup (dpAll_append dS hds) hfA np)
end
end L20

namespace L20
open PySem PySem.Spec PyProof.Rows L2 GR
section
variable {P : Program} {w : World} {K : PySem.W.Frag} {mg : Str → Option Value} {base : Heap}
theorem ok_none {k : Nat} {f : Addr} {fd : FuncData} {ps : List Str} {sp : Sp} (h : ∀ vs H Q E, ¬ sp vs H Q E) : FnOk P w K mg base CX0 k f fd ps sp :=
  ⟨fun vs H Q E q => absurd q (h vs H Q E), fun A outer s H args us vs Q E hr he hb hv hs => absurd hs (h vs H Q E)⟩
theorem ok_exprs {f f_law_draw f_law_pick : Addr} {fd fd_law_draw fd_law_pick : FuncData} {k : Nat} (F : Fun K "_law_expression" "_law_expression" s_law_expression f fd) (G_law_draw : FnOk P w K mg base CX0 k f_law_draw fd_law_draw ["_law_deck_here", "_law_most"] sp_draw)
    (g_law_draw : mg "_law_draw" = some (.ref f_law_draw)) (K_law_draw : PySem.W.keepIn K (.ref f_law_draw) = true) (b_law_draw : Binds K fd_law_draw ["_law_deck_here", "_law_most"] [])
    (G_law_pick : FnOk P w K mg base CX0 k f_law_pick fd_law_pick ["_law_deck_here", "_law_some"] (sp_pick K))
    (g_law_pick : mg "_law_pick" = some (.ref f_law_pick)) (K_law_pick : PySem.W.keepIn K (.ref f_law_pick) = true) (b_law_pick : Binds K fd_law_pick ["_law_deck_here", "_law_some"] [])
    (g : mg "_law_expression" = some (.ref f)) (Kf : PySem.W.keepIn K (.ref f) = true) (b : Binds K fd ps_ex [])
    (mint : mg "int" = none) (mmax : mg "max" = none) : ∀ n : Nat, FnOk P w K mg base CX0 (k + n + 1) f fd ps_ex (sp_expr K n)
  | 0 => ok_expr_step (k := k) F G_law_draw g_law_draw K_law_draw b_law_draw G_law_pick g_law_pick K_law_pick b_law_pick (ok_none fun vs H Q E ⟨m, h, _⟩ => by omega) g Kf b mint mmax
  | n + 1 => by
    have ih := ok_exprs F G_law_draw g_law_draw K_law_draw b_law_draw G_law_pick g_law_pick K_law_pick b_law_pick g Kf b mint mmax n
    refine ok_expr_step (k := k + n + 1) F (G_law_draw.mono (by omega)) g_law_draw K_law_draw b_law_draw (G_law_pick.mono (by omega)) g_law_pick K_law_pick b_law_pick (ih.imp ?_) g Kf b mint mmax
    rintro vs H Q E ⟨m, hm, h⟩
    obtain rfl : n = m := by omega
    exact h
/-! ### statements -/
/-- the table and column that a statement writes to; whether it is a let -/
def colD : PyData → Option (Str × Str)
  | .tuple [.str w, .str t, _, .str z, _] => if w = "put" ∨ w = "each" then some (t, z) else none
  | _ => none
def isLet : PyData → Bool
  | .tuple (.str w :: _) => decide (w = "let")
  | _ => false
/-- the form of a statement: its word, the next thing, the others -/
def SF (w : Str) (v1 : V) (vs : List V) (x : PyData) : Prop := (w = "let" ∧ isLet x = true ∧ colD x = none ∧ ∃ z e, v1 = .str z ∧ Nm z ∧ vs = [e]) ∨ ((w = "need" ∨ w = "tell") ∧ isLet x = false ∧ colD x = none ∧ vs = []) ∨
  ((w = "put" ∨ w = "each") ∧ isLet x = false ∧ ∃ t e z f, v1 = .str t ∧ vs = [e, .str z, f] ∧ colD x = some (t, z) ∧ Nm t ∧ Nm z)
theorem isLet_t {w : Str} {ds : List PyData} (h : w = "let") : isLet (.tuple (.str w :: ds)) = true := decide_eq_true h
theorem isLet_f {w : Str} {ds : List PyData} (h : w ≠ "let") : isLet (.tuple (.str w :: ds)) = false := decide_eq_false h
theorem colD_p {w t z : Str} {x y : PyData} (h : w = "put" ∨ w = "each") : colD (.tuple [.str w, .str t, x, .str z, y]) = some (t, z) := if_pos h
theorem colD_2 {w : Str} : ∀ x : PyData, colD (.tuple [.str w, x]) = none := fun x => by cases x <;> rfl
theorem SF.let' {w : Str} {v1 : V} {vs : List V} {x : PyData} (h : SF w v1 vs x) (e : w = "let") : ∃ z, v1 = .str z ∧ Nm z := by
  subst e
  rcases h with ⟨_, _, _, z, _, h1, h2, _⟩ | ⟨h, _⟩ | ⟨h, _⟩
  · exact ⟨z, h1, h2⟩
  · rcases h with h | h <;> exact absurd h (by decide)
  · rcases h with h | h <;> exact absurd h (by decide)
/-- a statement: a tuple of one of these forms -/
def SV (K : PySem.W.Frag) (H : Hp) (v : V) (x : PyData) : Prop := ∃ (p : Addr) (w : Str) (v1 : V) (vs : List V), v = .ref p ∧ H p = some (.tup (.str w :: v1 :: vs)) ∧ SF w v1 vs x ∧ Dp K H v x ∧ Fine 8 12000 x
theorem SV.keep {K : PySem.W.Frag} {H H' : Hp} {v : V} {x : PyData} (h : SV K H v x) (k : KeepT H H') : SV K H' v x := by
  obtain ⟨p, w, v1, vs, rfl, h1, h2, h3, h4⟩ := h
  exact ⟨p, w, v1, vs, rfl, k.1 _ _ h1, h2, dp_keep k _ _ h4.flat h3, h4⟩
abbrev s_law_statement : Stmt := topS 24
abbrev N_st : List Str := ["_law_deck_here", "_law_world_here", "_law_scope", "_law_deep", "_law_way", "_law_table", "_law_column", "_law_left", "_law_one", "_law_inner", "_law_name"]
abbrev ps_st : List Str := ["_law_deck_here", "_law_world_here", "_law_scope", "_law_deep"]
theorem sc_law_statement : FnScope N_st ps_st (defScope s_law_statement) := ⟨rfl, rfl, rfl, by decide +kernel, rfl, by decide +kernel, by decide +kernel⟩
def sp_stmt (K : PySem.W.Frag) : Sp := fun vs H Q _ => ∃ (d c u tl cl nl sc : Addr) (N deep : Int) (ts cs ns scope : List Str), vs = [.ref d, .ref u, .ref sc, .int deep] ∧ deep ≤ 3 ∧ Deck H d c N ∧ N < 2 ^ 53 ∧ Wd H d c u tl cl nl ts cs ns ∧ Scp H d c sc scope ∧
  ∀ H' v x, Keep d c H H' → Deck H' d c (N + 20000) → SV K H' v x → Q v H'
theorem nm_ok {z : Str} (h : Nm z) : PyData.strOk z = true := so_iff.mpr fun c hc => Nat.lt_of_le_of_lt (h.2.2.1 c hc).2 (by decide)
theorem dp_strs {K : PySem.W.Frag} {H : Hp} : ∀ zs : List Str, DpAll K H (zs.map V.str) (zs.map PyData.str)
  | [] => .nil
  | z :: zs => .cons (.str z) (dp_strs zs)
theorem shaped_strs {zs : List Str} (h : ∀ z, z ∈ zs → Nm z) : SeqAt.shaped (.list (zs.map PyData.str)) = true := by
  have h1 : PyData.canLayAll0 (zs.map PyData.str) = true := by
    induction zs with
    | nil => simp only [List.map_nil, PyData.canLayAll0]
    | cons z zs ih => simp only [List.map_cons, PyData.canLayAll0, PyData.canLay0, nm_ok (h z List.mem_cons_self), ih fun y hy => h y (List.mem_cons_of_mem _ hy), Bool.and_self]
  have h2 : PyData.depthAll (zs.map PyData.str) ≤ 1 := by
    clear h h1
    induction zs with
    | nil => simp only [List.map_nil, PyData.depthAll]; omega
    | cons z zs ih =>
      simp only [List.map_cons, PyData.depthAll, PyData.depth]
      omega
  unfold SeqAt.shaped
  rw [Bool.and_eq_true]
  refine ⟨by simp only [PyData.canLay0, h1], decide_eq_true ?_⟩
  simp only [PyData.depth]
  omega
theorem neq_nilS : ∀ zs : List Str, (!PyData.eqv (.list (zs.map PyData.str)) (.list [])) = !zs.isEmpty
  | [] => by simp only [List.map_nil, PyData.eqv, PyData.eqvAll, List.isEmpty_nil]
  | n :: ns => by simp only [List.map_cons, PyData.eqv, PyData.eqvAll, List.isEmpty_cons]
theorem flat_map_str (zs : List Str) : (zs.map V.str).all flatV = true := by
  rw [List.all_eq_true]
  intro v hv
  obtain ⟨z, _, rfl⟩ := List.mem_map.mp hv
  rfl
theorem ok_stmt {f f_law_draw f_law_pick f_ex : Addr} {fd fd_law_draw fd_law_pick d_ex : FuncData} {k : Nat} (F : Fun K "_law_statement" "_law_statement" s_law_statement f fd) (G_law_draw : FnOk P w K mg base CX0 k f_law_draw fd_law_draw ["_law_deck_here", "_law_most"] sp_draw)
    (g_law_draw : mg "_law_draw" = some (.ref f_law_draw)) (K_law_draw : PySem.W.keepIn K (.ref f_law_draw) = true) (b_law_draw : Binds K fd_law_draw ["_law_deck_here", "_law_most"] [])
    (G_law_pick : FnOk P w K mg base CX0 k f_law_pick fd_law_pick ["_law_deck_here", "_law_some"] (sp_pick K))
    (g_law_pick : mg "_law_pick" = some (.ref f_law_pick)) (K_law_pick : PySem.W.keepIn K (.ref f_law_pick) = true) (b_law_pick : Binds K fd_law_pick ["_law_deck_here", "_law_some"] [])
    (G : FnOk P w K mg base CX0 k f_ex d_ex ps_ex (sp_expr K 3)) (g : mg "_law_expression" = some (.ref f_ex)) (Kf : PySem.W.keepIn K (.ref f_ex) = true) (b : Binds K d_ex ps_ex []) : FnOk P w K mg base CX0 (k + 1) f fd ps_st (sp_stmt K) := by
  have nd := sc_law_statement.nd
  refine F.ok sc_law_statement (fun vs H Q E h => ?_) (fun cdv A outer s H vs Q E hr h => ?_)
  · obtain ⟨d, c, u, tl, cl, nl, sc, N, deep, ts, cs, ns, scope, rfl, _⟩ := h
    rfl
  obtain ⟨d, c, u, tl, cl, nl, sc, N, deep, ts, cs, ns, scope, rfl, hdeep, D, hN, W, S, q⟩ := h
  have hu1 : (A.deeper (envOfC "_law_statement" (defScope s_law_statement) s.heap.objs.size f cdv)).units + 1 < cLine := by
    have := hr.units
    omega
  refine ⟨_, (pss_cons (ps_set (i := 4) nd rfl (.inl rfl) (pe_call G_law_draw hr (by rfl) g_law_draw K_law_draw b_law_draw .nil pass0 (pa_cons (pv 0) (pa_cons pe_int pa_nil))))
      (pss_cons (ps_par (i := 5) (j := 6) rfl nd rfl rfl (by decide) rfl rfl (pa_cons (pe_call G_law_pick hr (by rfl) g_law_pick K_law_pick b_law_pick .nil pass0 (pa_cons (pv 0) (pa_cons (pe_dget hu1 (pv 1) pe_str noSl_str) pa_nil))) (pa_cons (pe_call G_law_pick hr (by rfl) g_law_pick K_law_pick b_law_pick .nil pass0 (pa_cons (pv 0) (pa_cons (pe_dget hu1 (pv 1) pe_str noSl_str) pa_nil))) pa_nil)) (by rfl))
      (pss_cons (ps_setLc (i := 7) (own := [("_law_name", 10)]) (tt := tTest (tOp (rIn K true) (tVar 10) (tVar 2))) (te := tVar 10) rfl nd rfl rfl (sw_true rfl rfl rfl (by decide +kernel)) (pi_list (pe_dget hu1 (pv 1) pe_str noSl_str)) (blkOk_by (N := N_st) (sc := defScope s_law_statement) (by decide +kernel)) (fun _ _ _ _ _ => (pg_name (i := 10) nd rfl (Or.inl rfl))) (fun _ _ _ _ _ => (pts_one (pt_cmpR op_notIn_seq (pv 10) (pv 2) (by rfl)))) (fun _ _ _ _ _ => (pv 10)))
      (pss_cons (ps_set (i := 8) nd rfl (.inl rfl) (pe_call G hr (by rfl) g Kf b .nil pass0 (pa_cons (pv 0) (pa_cons (pv 1) (pa_cons (pv 3) (pa_cons (pv 2) (pa_cons pe_int pa_nil)))))))
      (Evl.pss_cut (ps_if (PW.pt (pw_and (pt_cmpR op_lt (pv 4) pe_int (nomark _)) (pw_and1 (pt_cmpR (op_neD hr.units) (pv 7) (pe_lst pa_nil) (nomark _)))))
      (pss_one (ps_ret (pe_tup (pa_cons pe_str (pa_cons (pe_ix ix_list (pv 7) pe_int (fun _ _ => rfl)) (pa_cons (pv 8) pa_nil))))))
      pss_nil)
      (pss_cons (ps_if (pt_cmpR op_lt (pv 4) pe_int (nomark _))
      (pss_one (ps_ret (pe_ix ix_list (pe_lst (pa_cons (pe_tup (pa_cons pe_str (pa_cons (pe_tup (pa_cons pe_str (pa_cons (pe_tup (pa_cons pe_str (pa_cons (pe_op op_sub pe_int pe_int) pa_nil))) (pa_cons (pv 8) pa_nil)))) pa_nil))) (pa_cons (pe_tup (pa_cons pe_str (pa_cons (pv 8) pa_nil))) pa_nil))) (pe_op op_mod (pv 4) pe_int) (fun _ _ => rfl))))
      pss_nil)
      (pss_cons (ps_if (pt_cmpR op_lt (pv 4) pe_int (nomark _))
      (pss_cons (ps_set (i := 9) nd rfl (.inl rfl) (pe_call G hr (by rfl) g Kf b .nil pass0 (pa_cons (pv 0) (pa_cons (pv 1) (pa_cons (pv 3) (pa_cons (pv 2) (pa_cons pe_int pa_nil)))))))
        (pss_one (ps_ret (pe_tup (pa_cons pe_str (pa_cons (pv 5) (pa_cons (pv 9) (pa_cons (pv 6) (pa_cons (pe_call G hr (by rfl) g Kf b .nil pass0 (pa_cons (pv 0) (pa_cons (pv 1) (pa_cons (pv 3) (pa_cons (pv 2) (pa_cons pe_int pa_nil)))))) pa_nil)))))))))
      pss_nil)
      (pss_cons (ps_if (pt_cmpR op_lt (pv 4) pe_int (nomark _))
      (pss_one (ps_ret (pe_tup (pa_cons pe_str (pa_cons (pv 5) (pa_cons (pe_call G hr (by rfl) g Kf b .nil pass0 (pa_cons (pv 0) (pa_cons (pv 1) (pa_cons pe_int (pa_cons (pv 2) (pa_cons pe_int pa_nil)))))) (pa_cons pe_str (pa_cons (pe_tup (pa_cons pe_str (pa_cons (pe_call G_law_draw hr (by rfl) g_law_draw K_law_draw b_law_draw .nil pass0 (pa_cons (pv 0) (pa_cons pe_int pa_nil))) pa_nil))) pa_nil))))))))
      pss_nil)
      (pss_one (ps_ret (pe_tup (pa_cons pe_str (pa_cons (pv 5) (pa_cons (pe_call G hr (by rfl) g Kf b .nil pass0 (pa_cons (pv 0) (pa_cons (pv 1) (pa_cons (pe_op op_sub (pv 3) pe_int) (pa_cons (pv 2) (pa_cons pe_int pa_nil)))))) (pa_cons (pv 6) (pa_cons (pv 8) pa_nil)))))))))))))))), ?_⟩
  have hdx : dx 3 = 3450 + 0 := by decide
  have hem : em 3 = 5820 := by decide
  refine ⟨.ref d, rfl, d, c, N, 12, rfl, D, by omega, by decide, by decide, fun H1 way k1 D1 w0 w1 => ?_⟩
  have W1 := W.keep k1
  refine ⟨.ref d, rfl, .ref u, rfl, u, .ref tl, rfl, ?_, .inl ⟨d, c, tl, _, _, rfl, D1, by omega, .inl (.inl W1.ht), ?_, ?_, W1.t0.1, W1.t0.2, fun H2 vt k2 D2 hvt => ?_⟩⟩
  · rw [← wD_t tl cl nl]
    exact DGet.k (k := .inr "tables") W1.dct
  · intro e
    have := congrArg List.length e
    rw [List.length_map, W.lt] at this
    cases this
  · rw [List.length_map, W.lt]
    decide
  obtain ⟨t, ht, rfl⟩ := List.mem_map.mp hvt
  have ft := Fine.str (W.at' t ht)
  have k02 := k1.trans k2
  have W2 := W.keep k02
  refine ⟨.ref d, rfl, .ref u, rfl, u, .ref cl, rfl, ?_, .inl ⟨d, c, cl, _, _, rfl, D2, by omega, .inl (.inl W2.hc), ?_, ?_, W2.c0.1, W2.c0.2, fun H3 vc k3 D3 hvc => ?_⟩⟩
  · rw [← wD_c tl cl nl]
    exact DGet.k (k := .inr "columns") W2.dct
  · intro e
    have := congrArg List.length e
    rw [List.length_map, W.lc] at this
    cases this
  · rw [List.length_map, W.lc]
    decide
  obtain ⟨z, hz, rfl⟩ := List.mem_map.mp hvc
  have fz := Fine.str (W.ac z hz)
  have k03 := k02.trans k3
  have W3 := W.keep k03
  have S3 := S.keep k03
  refine ⟨_, _, rfl, ?_⟩
  -- what is left
  refine ⟨.ref u, rfl, u, .ref nl, rfl, ?_, nl, rfl, ⟨_, .inl (.inl W3.hn)⟩, fun B nB => ?_⟩
  · rw [← wD_n tl cl nl]
    exact DGet.k (k := .inr "names") W3.dct
  have hBd := D3.new nB
  have hBn : nl ≠ B := ne_of_none W3.hn nB
  have hBs : sc ≠ B := ne_of_none S3.at' nB
  refine lc_list (xs := ns.map V.str) (fun i H' => ∃ zs : List Str, H' B = some (.lst (zs.map V.str)) ∧ zs.length ≤ i ∧ (∀ y, y ∈ zs → Nm y) ∧ ∀ b ob, b ≠ B → H3 b = some ob → H' b = some ob) ?_ ?_ ?_ ?_
  · exact ⟨[], upd_same, Nat.le_refl _, fun v hv => (nomatch hv), fun b ob nb e => by rw [upd_ne nb]; exact e⟩
  · rintro i H' _ ⟨_, _, _, _, kk⟩
    exact .inl (.inl (kk _ _ hBn W3.hn))
  · rintro i x H4 hx ⟨zs, hB, hl4, hg, kk⟩
    rw [List.getElem?_map] at hx
    obtain ⟨y, hy, rfl⟩ := Option.map_eq_some_iff.mp hx
    have hi : i < ns.length := (List.getElem?_eq_some_iff.mp hy).1
    have hln := W.ln
    refine ⟨rfl, .str y, rfl, .ref sc, rfl, sc, _, rfl, .inl (.inl (.inl (kk _ _ hBs S3.at'))), rfl, flat_map_str _, _, rfl, ?_⟩
    refine ite2 (fun e => ?_) (fun e => ?_)
    · refine ⟨.str y, rfl, _, hB, small1000 (by rw [List.length_map]; omega), zs ++ [y], by rw [List.map_append]; exact upd_same, by rw [List.length_append]; exact Nat.succ_le_succ hl4, fun v hv => ?_, fun b ob nb e => by rw [upd_ne nb]; exact kk b ob nb e⟩
      rcases List.mem_append.mp hv with h | h
      · exact hg v h
      · rw [List.mem_singleton.mp h]
        exact W.an y (List.mem_of_getElem? hy)
    · exact ⟨zs, hB, by omega, hg, kk⟩
  · rintro H4 ⟨zs, hB, hl4, hg, kk⟩
    rw [List.length_map, W.ln] at hl4
    have s34 : Same H3 H4 := fun b ob e => kk b ob (ne_of_none e nB) e
    have k04 := k03.trans (Keep.of s34)
    have D4 := D3.same s34
    have ew : ∀ z : Str, Fine 6 9 (.str z) → Fine 6 9 (.str z) := fun z h => h
    refine ⟨.ref d, rfl, .ref u, rfl, .int deep, rfl, .ref sc, rfl, d, c, u, tl, cl, nl, sc, _, deep, 0, ts, cs, ns, scope, rfl, D4, by omega, W.keep k04, S.keep k04, by omega, by decide, by decide, fun H5 v1 x1 k5 D5 f1 _ p1 => ?_⟩
    rw [hem] at f1
    have k05 := k04.trans k5
    have hB5 := k5 _ _ hBd.1 hBd.2 hB
    have D5' := D5.mono (show N + 1 + 1 + 1 + dx 3 ≤ N + 3500 by omega)
    -- a let
    refine ⟨fun σ' H' => σ' = [some (.ref d), some (.ref u), some (.ref sc), some (.int deep), some (.int way), some (.str t), some (.str z), some (.ref B), some v1, none, none] ∧ Same H5 H', ?_, ?_⟩
    · refine ⟨.int way, rfl, _, _, rfl, rfl, _, rfl, ite2 (fun e1 => ⟨.ref B, rfl, Nat.zero_le _, fun l nl' => ⟨_, _, .lst (.inl (.inl (same_upd nl' _ _ hB5))) (dp_strs zs), .lst (.inl (.inl upd_same)) .nil, shaped_strs hg, rfl, ?_⟩⟩) (fun e1 => ?_)⟩
      · rw [neq_nilS]
        have sl := same_upd (o := .lst []) nl'
        refine ⟨_, rfl, ite2 (fun e2 => ?_) (fun e2 => ⟨rfl, sl⟩)⟩
        obtain ⟨y, ys, rfl⟩ : ∃ y ys, zs = y :: ys := by
          cases zs with
          | nil => exact absurd e2 (by decide)
          | cons y ys => exact ⟨y, ys, rfl⟩
        have fy := Fine.str (hg y List.mem_cons_self)
        refine ⟨.ref B, rfl, B, _, 0, .str y, rfl, rfl, .inl (.inl (sl _ _ hB5)), at0, v1, rfl, h1000 (show 3 ≤ 1000 by decide), fun p np => ?_⟩
        have s6 := same_upd (o := .tup [.str "let", .str y, v1]) np
        have F := (Fines.cons (Fine.word (w := "let") (by decide)).k0 (.cons fy.k0 (.cons f1 .nil))).tup
        exact q _ _ _ (k05.trans (Keep.of (sl.trans s6))) ((D5'.same (sl.trans s6)).mono (by omega)) ⟨p, "let", .str y, [v1], rfl, upd_same, .inl ⟨rfl, isLet_t rfl, rfl, y, v1, rfl, hg y List.mem_cons_self, rfl⟩, new_tup (.cons (.str _) (.cons (.str _) (.cons (dp_keep (KeepT.of sl) _ _ f1.flat p1) .nil))) (by simp only [flatDs, flatD, f1.flat, Bool.and_self]) np, F.mono (by omega) (by omega)⟩
      · exact ⟨rfl, fun _ _ e => e⟩
    rintro σ' H6 ⟨rfl, s56⟩
    have k06 := k05.trans (Keep.of s56)
    have D6 := D5'.same s56
    have p16 := dp_keep (KeepT.of s56) _ _ f1.flat p1
    have W6 := W.keep k06
    have S6 := S.keep k06
    clear hB5 hB kk
    -- a need, a tell
    refine ⟨.int way, rfl, _, _, rfl, rfl, _, rfl, ite2 (fun e1 => ?_) (fun e1 => ?_)⟩
    · refine ⟨_, _, rfl, rfl, h1000 (show 2 ≤ 1000 by decide), fun a1 m1 => ⟨v1, rfl, h1000 (show 3 ≤ 1000 by decide), fun a2 m2 => ⟨h1000 (show 2 ≤ 1000 by decide), fun a3 m3 => ⟨v1, rfl, h1000 (show 2 ≤ 1000 by decide), fun a4 m4 => ⟨h1000 (show 2 ≤ 1000 by decide), fun l ml => ?_⟩⟩⟩⟩⟩
      dsimp only
      have t1 := same_upd (o := .tup [.str "int", .int (0 - 3)]) m1
      have t2 := same_upd (o := .tup [.str "<", .ref a1, v1]) m2
      have t3 := same_upd (o := .tup [.str "need", .ref a2]) m3
      have t4 := same_upd (o := .tup [.str "tell", v1]) m4
      have tl5 := same_upd (o := .lst [.ref a3, .ref a4]) ml
      have b1 := new_tup (K := K) (.cons (.str "int") (.cons (.int (0 - 3)) .nil)) rfl m1
      have b2 := new_tup (K := K) (.cons (.str "<") (.cons b1 (.cons (dp_keep (KeepT.of t1) _ _ f1.flat p16) .nil))) (by simp only [flatDs, flatD, f1.flat, Bool.and_self]) m2
      have b3 := new_tup (K := K) (.cons (.str "need") (.cons b2 .nil)) (by simp only [flatDs, flatD, f1.flat, Bool.and_self]) m3
      have b4 := new_tup (K := K) (.cons (.str "tell") (.cons (dp_keep (KeepT.of (t1.trans (t2.trans t3))) _ _ f1.flat p16) .nil)) (by simp only [flatDs, flatD, f1.flat, Bool.and_self]) m4
      have fi : Fine 1 36 (.tuple [.str "int", .int (0 - 3)]) := (tup2 (by decide) (Fine.int (by decide) (by decide)))
      have F3 := tup2 (w := "need") (by decide) (((Fines.cons (Fine.word (w := "<") (by decide)).k0 (.cons (fi.mono (show 1 ≤ 6 by decide) (Nat.le_refl _)) (.cons f1 .nil))).tup))
      have F4 := tup2 (w := "tell") (by decide) f1
      have hs3 : SV K _ (.ref a3) (.tuple [.str "need", .tuple [.str "<", .tuple [.str "int", .int (0 - 3)], x1]]) := ⟨a3, "need", .ref a2, [], rfl, upd_same, .inr (.inl ⟨.inl rfl, isLet_f (by decide), colD_2 _, rfl⟩), b3, F3.mono (by decide) (by decide)⟩
      have hs4 : SV K _ (.ref a4) (.tuple [.str "tell", x1]) := ⟨a4, "tell", v1, [], rfl, upd_same, .inr (.inl ⟨.inr rfl, isLet_f (by decide), colD_2 _, rfl⟩), b4, F4.mono (by decide) (by decide)⟩
      have h3 := (hs3.keep (KeepT.of t4)).keep (KeepT.of tl5)
      have h4 := hs4.keep (KeepT.of tl5)
      have t15 := t1.trans (t2.trans (t3.trans (t4.trans tl5)))
      have hl : upd (upd (upd (upd (upd H6 a1 (.tup [.str "int", .int (0 - 3)])) a2 (.tup [.str "<", .ref a1, v1])) a3 (.tup [.str "need", .ref a2])) a4 (.tup [.str "tell", v1])) l (.lst [.ref a3, .ref a4]) l = some (.lst [.ref a3, .ref a4]) := upd_same
      clear t1 t2 t3 t4 tl5 b1 b2 b3 b4 hs3 hs4 m1 m2 m3 m4 ml
      revert h3 h4 t15 hl
      generalize upd (upd (upd (upd (upd H6 a1 (.tup [.str "int", .int (0 - 3)])) a2 (.tup [.str "<", .ref a1, v1])) a3 (.tup [.str "need", .ref a2])) a4 (.tup [.str "tell", v1])) l (.lst [.ref a3, .ref a4]) = H7
      intro h3 h4 t15 hl
      have k07 := k06.trans (Keep.of t15)
      have D7 := (D6.same t15).mono (show N + 3500 ≤ N + 20000 by omega)
      have hw2 : way % 2 = 0 ∨ way % 2 = 1 := by omega
      refine ⟨.int way, rfl, _, _, rfl, rfl, (show (0 : Int) < 2 by decide), ?_⟩
      dsimp only
      rcases hw2 with e2 | e2
      · rw [e2]
        exact ⟨l, _, 0, .ref a3, rfl, rfl, .inl (.inl hl), at0, q _ _ _ k07 D7 h3⟩
      · rw [e2]
        exact ⟨l, _, 1, .ref a4, rfl, rfl, .inl (.inl hl), at1, q _ _ _ k07 D7 h4⟩
    -- an each
    refine ⟨.int way, rfl, _, _, rfl, rfl, _, rfl, ite2 (fun e2 => ?_) (fun e2 => ?_)⟩
    · refine ⟨.ref d, rfl, .ref u, rfl, .int deep, rfl, .ref sc, rfl, d, c, u, tl, cl, nl, sc, _, deep, 2, ts, cs, ns, scope, rfl, D6, by omega, W6, S6, by omega, by decide, by decide, fun H7 v2 x2 k7 D7 f2 _ p2 => ?_⟩
      have k07 := k06.trans k7
      rw [hem] at f2
      refine ⟨.str t, rfl, v2, rfl, .str z, rfl, .ref d, rfl, .ref u, rfl, .int deep, rfl, .ref sc, rfl, d, c, u, tl, cl, nl, sc, _, deep, 2, ts, cs, ns, scope, rfl, D7, by omega, W.keep k07, S.keep k07, by omega, by decide, by decide, fun H8 v3 x3 k8 D8 f3 _ p3 => ⟨h1000 (show 5 ≤ 1000 by decide), fun p np => ?_⟩⟩
      rw [hem] at f3
      have s9 := same_upd (o := .tup [.str "each", .str t, v2, .str z, v3]) np
      have F := (Fines.cons (Fine.word (w := "each") (by decide)).k0 (.cons ft.k0 (.cons f2 (.cons fz.k0 (.cons f3 .nil))))).tup
      exact q _ _ _ ((k07.trans k8).trans (Keep.of s9)) ((D8.same s9).mono (by omega)) ⟨p, "each", .str t, [v2, .str z, v3], rfl, upd_same, .inr (.inr ⟨.inr rfl, isLet_f (by decide), t, v2, z, v3, rfl, rfl, colD_p (.inr rfl), W.at' t ht, W.ac z hz⟩), new_tup (.cons (.str _) (.cons (.str _) (.cons (dp_keep (k8.t D7) _ _ f2.flat p2) (.cons (.str _) (.cons p3 .nil))))) (by simp only [flatDs, flatD, f2.flat, f3.flat, Bool.and_self]) np, F.mono (by omega) (by omega)⟩
    -- a put to in
    refine ⟨.int way, rfl, _, _, rfl, rfl, _, rfl, ite2 (fun e3 => ?_) (fun e3 => ?_)⟩
    · refine ⟨.str t, rfl, .ref d, rfl, .ref u, rfl, .ref sc, rfl, d, c, u, tl, cl, nl, sc, _, 0, 0, ts, cs, ns, scope, rfl, D6, by omega, W6, S6, by decide, by decide, by decide, fun H7 v2 x2 k7 D7 f2 _ p2 => ?_⟩
      have k07 := k06.trans k7
      rw [hem] at f2
      refine ⟨.ref d, rfl, d, c, _, 4, rfl, D7, by omega, by decide, by decide, fun H8 r k8 D8 r0 r1 => ⟨h1000 (show 2 ≤ 1000 by decide), fun p1 np1 => ⟨h1000 (show 5 ≤ 1000 by decide), fun p np => ?_⟩⟩⟩
      have s9 := same_upd (o := .tup [.str "int", .int r]) np1
      have s10 := same_upd (o := .tup [.str "put", .str t, v2, .str "in", .ref p1]) np
      have bi := new_tup (K := K) (.cons (.str "int") (.cons (.int r) .nil)) rfl np1
      have fi : Fine 1 36 (.tuple [.str "int", .int r]) := tup2 (by decide) (Fine.int (by omega) (by omega))
      have F := (Fines.cons (Fine.word (w := "put") (by decide)).k0 (.cons ft.k0 (.cons f2 (.cons (Fine.word (w := "in") (by decide)).k0 (.cons (fi.mono (show 1 ≤ 6 by decide) (Nat.le_refl _)) .nil))))).tup
      exact q _ _ _ ((k07.trans k8).trans (Keep.of (s9.trans s10))) ((D8.same (s9.trans s10)).mono (by omega)) ⟨p, "put", .str t, [v2, .str "in", .ref p1], rfl, upd_same, .inr (.inr ⟨.inl rfl, isLet_f (by decide), t, v2, "in", .ref p1, rfl, rfl, colD_p (.inl rfl), W.at' t ht, in_nm⟩), new_tup (.cons (.str _) (.cons (.str _) (.cons (dp_keep ((k8.t D7).trans (KeepT.of s9)) _ _ f2.flat p2) (.cons (.str _) (.cons bi .nil))))) (by simp only [flatDs, flatD, f2.flat, Bool.and_self]) np, F.mono (by omega) (by omega)⟩
    -- a put
    refine ⟨.str t, rfl, .ref d, rfl, .ref u, rfl, .int deep, rfl, deep, 1, rfl, rfl, .ref sc, rfl, d, c, u, tl, cl, nl, sc, _, _, 0, ts, cs, ns, scope, rfl, D6, by omega, W6, S6, by omega, by decide, by decide, fun H7 v2 x2 k7 D7 f2 _ p2 => ?_⟩
    rw [hem] at f2
    refine ⟨.str z, rfl, v1, rfl, h1000 (show 5 ≤ 1000 by decide), fun p np => ?_⟩
    have s9 := same_upd (o := .tup [.str "put", .str t, v2, .str z, v1]) np
    have F := (Fines.cons (Fine.word (w := "put") (by decide)).k0 (.cons ft.k0 (.cons f2 (.cons fz.k0 (.cons f1 .nil))))).tup
    exact q _ _ _ ((k06.trans k7).trans (Keep.of s9)) ((D7.same s9).mono (by omega)) ⟨p, "put", .str t, [v2, .str z, v1], rfl, upd_same, .inr (.inr ⟨.inl rfl, isLet_f (by decide), t, v2, z, v1, rfl, rfl, colD_p (.inl rfl), W.at' t ht, W.ac z hz⟩), new_tup (.cons (.str _) (.cons (.str _) (.cons p2 (.cons (.str _) (.cons (dp_keep (k7.t D6) _ _ f1.flat p16) .nil))))) (by simp only [flatDs, flatD, f1.flat, f2.flat, Bool.and_self]) np, F.mono (by omega) (by omega)⟩
end
end L20

namespace L20
open PySem PySem.Spec PyProof.Rows L2 GR
abbrev SVs (K : PySem.W.Frag) (H : Hp) : List V → List PyData → Prop := Paired (SV K H)
theorem svs_keep {K : PySem.W.Frag} {H H' : Hp} (k : KeepT H H') : ∀ {vs : List V} {ds : List PyData}, SVs K H vs ds → SVs K H' vs ds
  | _, _, .nil => .nil
  | _, _, .cons h t => .cons (h.keep k) (svs_keep k t)
theorem svs_append {K : PySem.W.Frag} {H : Hp} : ∀ {vs us : List V} {ds es : List PyData}, SVs K H vs ds → SVs K H us es → SVs K H (vs ++ us) (ds ++ es)
  | _, _, _, _, .nil, h => h
  | _, _, _, _, .cons h t, g => .cons h (svs_append t g)
theorem svs_len {K : PySem.W.Frag} {H : Hp} {vs : List V} {ds : List PyData} (h : SVs K H vs ds) : vs.length = ds.length := Paired.length h
section
variable {P : Program} {w : World} {K : PySem.W.Frag} {mg : Str → Option Value} {base : Heap}
abbrev s_law_transaction : Stmt := topS 25
abbrev N_tr : List Str := ["_law_deck_here", "_law_world_here", "_law_most", "_law_deep", "_law_scope", "_law_found", "_law_k"]
abbrev ps_tr : List Str := ["_law_deck_here", "_law_world_here", "_law_most", "_law_deep"]
theorem sc_law_transaction : FnScope N_tr ps_tr (defScope s_law_transaction) := ⟨rfl, rfl, rfl, by decide +kernel, rfl, by decide +kernel, by decide +kernel⟩
def sp_tran (K : PySem.W.Frag) : Sp := fun vs H Q _ => ∃ (d c u tl cl nl : Addr) (N deep : Int) (many : Nat) (ts cs ns : List Str), vs = [.ref d, .ref u, .int (many : Int), .int deep] ∧ deep ≤ 3 ∧ many ≤ 6 ∧ Deck H d c N ∧ N < 2 ^ 52 ∧ Wd H d c u tl cl nl ts cs ns ∧
  ∀ H' p us ds, Keep d c H H' → Deck H' d c (N + 200000) → H' p = some (.tup us) → SVs K H' us ds → us.length ≤ 6 → Q (.ref p) H'
theorem ok_tran {f f_law_draw f_st : Addr} {fd fd_law_draw d_st : FuncData} {k : Nat} (F : Fun K "_law_transaction" "_law_transaction" s_law_transaction f fd) (G_law_draw : FnOk P w K mg base CX0 k f_law_draw fd_law_draw ["_law_deck_here", "_law_most"] sp_draw)
    (g_law_draw : mg "_law_draw" = some (.ref f_law_draw)) (K_law_draw : PySem.W.keepIn K (.ref f_law_draw) = true) (b_law_draw : Binds K fd_law_draw ["_law_deck_here", "_law_most"] [])
    (G : FnOk P w K mg base CX0 k f_st d_st ps_st (sp_stmt K)) (g : mg "_law_statement" = some (.ref f_st)) (Kf : PySem.W.keepIn K (.ref f_st) = true) (b : Binds K d_st ps_st []) (mrange : mg "range" = none) (mint : mg "int" = none) (mtuple : mg "tuple" = none) : FnOk P w K mg base CX0 (k + 1) f fd ps_tr (sp_tran K) := by
  have nd := sc_law_transaction.nd
  refine F.ok sc_law_transaction (fun vs H Q E h => ?_) (fun cdv A outer s H vs Q E hr h => ?_)
  · obtain ⟨d, c, u, tl, cl, nl, N, deep, many, ts, cs, ns, rfl, _⟩ := h
    rfl
  obtain ⟨d, c, u, tl, cl, nl, N, deep, many, ts, cs, ns, rfl, hdeep, hmany, D, hN, W, q⟩ := h
  refine ⟨_, (pss_cons (ps_set (i := 4) nd rfl (.inl rfl) (pe_lst pa_nil))
      (pss_cons (ps_set (i := 5) nd rfl (.inl rfl) (pe_lst pa_nil))
      (pss_cons (ps_for PassesOwn.never rfl (pi_range1 rfl mrange (pa_cons (pe_call G_law_draw hr (by rfl) g_law_draw K_law_draw b_law_draw .nil pass0 (pa_cons (pv 0) (pa_cons (pe_op op_add (pv 2) pe_int) pa_nil))) pa_nil)) (pg_name (i := 6) nd rfl (Or.inl rfl))
      (pss_cons (ps_expr (pe_bm PySem.F.plainAttrs_list PySem.F.slot_list_append PySem.F.type_list_append mt_append (pv 5) (pa_cons (pe_call G hr (by rfl) g Kf b .nil pass0 (pa_cons (pv 0) (pa_cons (pv 1) (pa_cons (pv 4) (pa_cons (pv 3) pa_nil))))) pa_nil)))
        (pss_one (ps_set (i := 4) nd rfl (.inl rfl) (pe_op op_cat (pv 4) (pe_op op_rep (pe_lst (pa_cons (pe_ix ix_tup (pe_ix ix_list (pv 5) (pe_un un_neg pe_int) (fun _ _ => rfl)) pe_int (fun _ _ => rfl)) pa_nil)) (pe_callTy call_int1 (by rfl) mint boot_int (pa_cons (pe_cmpR op_eq (pe_ix ix_tup (pe_ix ix_list (pv 5) (pe_un un_neg pe_int) (fun _ _ => rfl)) pe_int (fun _ _ => rfl)) pe_str (nomark _)) pa_nil))))))))
      (pss_one (ps_ret (pe_callTy call_tuple_of (by rfl) mtuple boot_tuple (pa_cons (pv 5) pa_nil))))))), ?_⟩
  refine ⟨Nat.zero_le _, fun sc nsc => ⟨Nat.zero_le _, fun fo nfo => ?_⟩⟩
  have s1 := same_upd (o := .lst []) nsc
  have s2 := same_upd (o := .lst []) nfo
  have hsc := D.new nsc
  have hfo := (D.same s1).new nfo
  have h1 := s2 _ _ (show upd H sc (.lst []) sc = _ from upd_same)
  have h2 : upd (upd H sc (.lst [])) fo (.lst []) fo = some (.lst []) := upd_same
  have nfoH : H fo = none := s1.free nfo
  have hsf : sc ≠ fo := ne_of_none (show upd H sc (.lst []) sc = some (.lst []) from upd_same) nfo
  have s12 := s1.trans s2
  revert h1 h2 s12
  clear s1 s2
  generalize upd (upd H sc (.lst [])) fo (.lst []) = H1
  intro h1 h2 s12
  have D1 := D.same s12
  refine ⟨.ref d, rfl, .int (many : Int), rfl, (many : Int), 1, rfl, rfl, d, c, N, (many : Int) + 1, rfl, D1, by omega, by omega, by omega, fun H2 r k2 D2 r0 r1 => ?_⟩
  obtain ⟨m, rfl⟩ := Int.eq_ofNat_of_zero_le r0
  refine ⟨(m : Int), rfl, by omega, by omega, ?_⟩
  rw [show ((m : Int)).toNat = m by omega]
  refine for_range (n := m) (fun i σ H' => ∃ (sc : Addr) (y6 : Option V) (us : List V) (ds : List PyData) (scope : List Str), σ = [some (.ref d), some (.ref u), some (.int (many : Int)), some (.int deep), some (.ref sc), some (.ref fo), y6] ∧ Keep d c H H' ∧ Deck H' d c (N + 1 + 20000 * (i : Int)) ∧ H' fo = some (.lst us) ∧ SVs K H' us ds ∧ us.length = i ∧ Scp H' d c sc scope ∧ scope.length ≤ i ∧ sc ≠ fo) ?_ ?_ ?_
  · exact ⟨sc, none, [], [], [], rfl, (Keep.of s12).trans k2, D2.mono (by omega), k2 _ _ hfo.1 hfo.2 h2, .nil, rfl, ⟨k2 _ _ hsc.1 hsc.2 h1, hsc, fun z hz => (nomatch hz), Nat.zero_le _⟩, Nat.zero_le _, hsf⟩
  · rintro i σ H3 hi ⟨sc, y6, us, ds, scope, rfl, k3, D3, hf, hs, hl, S, hsl, nsf⟩
    refine ⟨.ref fo, rfl, .inl ⟨rfl, us, .inl (.inl hf)⟩, .ref d, rfl, .ref u, rfl, .ref sc, rfl, .int deep, rfl, d, c, u, tl, cl, nl, sc, _, deep, ts, cs, ns, scope, rfl, hdeep, D3, by omega, W.keep k3, S, fun H4 v x k4 D4 sv => ?_⟩
    have hf4 := k4 _ _ hfo.1 hfo.2 hf
    have S4 := S.keep k4
    have hs4 := svs_keep (k4.t D3) hs
    refine ⟨fo, us, v, rfl, rfl, hf4, small1000 (by omega), ?_⟩
    have kf : KeepT H4 (upd H4 fo (.lst (us ++ [v]))) := KeepT.lst hf4
    have hf5 : upd H4 fo (.lst (us ++ [v])) fo = some (.lst (us ++ [v])) := upd_same
    have hs5 := svs_append (svs_keep kf hs4) (.cons (sv.keep kf) .nil)
    have sv5 := sv.keep kf
    have D5 := D4.upd (o := .lst (us ++ [v])) hfo.1 hfo.2
    have k5 : Keep d c H (upd H4 fo (.lst (us ++ [v]))) := fun b o n1 n2 e => by
      rw [upd_ne (ne_of_none e nfoH)]
      exact k4 _ _ n1 n2 (k3 _ _ n1 n2 e)
    have hsc5 : upd H4 fo (.lst (us ++ [v])) sc = some (.lst (scope.map V.str)) := by
      rw [upd_ne nsf]
      exact S4.at'
    revert hf5 hs5 sv5 D5 k5 hsc5
    generalize upd H4 fo (.lst (us ++ [v])) = H5
    intro hf5 hs5 sv5 D5 k5 hsc5
    obtain ⟨p, w', v1, vs, rfl, hp, hsf, hdp, hfin⟩ := id sv5
    have hlet := hsf.let'
    refine ⟨.ref sc, rfl, .ref fo, rfl, 1, rfl, fo, _, -1, .ref p, rfl, rfl, .inl (.inl hf5), atI_last _ _, p, _, 1, v1, rfl, rfl, .inl (.inl hp), at1, h1000 (show 1 ≤ 1000 by decide), fun l1 nl1 => ?_⟩
    have s6 := same_upd (o := .lst [v1]) nl1
    have hl1 : upd H5 l1 (.lst [v1]) l1 = some (.lst [v1]) := upd_same
    revert s6 hl1
    generalize upd H5 l1 (.lst [v1]) = H6
    intro s6 hl1
    refine ⟨.ref fo, rfl, 1, rfl, fo, _, -1, .ref p, rfl, rfl, .inl (.inl (s6 _ _ hf5)), atI_last _ _, p, _, 0, .str w', rfl, rfl, .inl (.inl (s6 _ _ hp)), at0, rfl, .inr ⟨_, rfl, ?_⟩⟩
    refine ⟨l1, _, [v1], rfl, rfl, hl1, ?_, ?_, ?_, fun l2 nl2 => ?_⟩
    · split <;> decide
    · split <;> decide
    · split
      · exact h1000 (show 1 * 1 ≤ 1000 by decide)
      · exact h1000 (show 1 * 0 ≤ 1000 by decide)
    obtain ⟨more, hmore, hm1, hmn⟩ : ∃ more : List Str, (List.replicate (if decide (V.str w' = V.str "let") = true then 1 else 0 : Int).toNat [v1]).flatten = more.map V.str ∧ more.length ≤ 1 ∧ ∀ z, z ∈ more → Nm z := by
      by_cases e : V.str w' = V.str "let"
      · obtain ⟨z, rfl, hz⟩ := hlet (V.str.inj e)
        rw [decide_eq_true e]
        exact ⟨[z], rfl, Nat.le_refl _, fun y hy => by rw [List.mem_singleton.mp hy]; exact hz⟩
      · rw [decide_eq_false e]
        exact ⟨[], rfl, Nat.zero_le _, fun y hy => (nomatch hy)⟩
    rw [hmore]
    have s7 := same_upd (o := .lst (more.map V.str)) nl2
    have hl2 : upd H6 l2 (.lst (more.map V.str)) l2 = some (.lst (more.map V.str)) := upd_same
    have s67 := s6.trans s7
    revert s67 hl2
    clear s7 nl2
    generalize upd H6 l2 (.lst (more.map V.str)) = H7
    intro hl2 s67
    refine ⟨sc, l2, _, _, rfl, rfl, s67 _ _ hsc5, hl2, ?_, fun sc2 nsc2 => ?_⟩
    · rw [List.length_map, List.length_map]
      exact h1000 (by omega)
    rw [← List.map_append]
    have s8 := same_upd (o := .lst ((scope ++ more).map V.str)) nsc2
    have s58 := s67.trans s8
    have hsc2 := (D5.same s67).new nsc2
    exact ⟨sc2, _, us ++ [.ref p], ds ++ [x], scope ++ more, rfl, k5.trans (Keep.of s58), (D5.same s58).mono (by omega), s58 _ _ hf5, svs_keep (KeepT.of s58) hs5, by rw [List.length_append, hl]; rfl, ⟨upd_same, hsc2, fun z hz => by
      rcases List.mem_append.mp hz with h | h
      · exact S.nm z h
      · exact hmn z h, by rw [List.length_append]; omega⟩, by rw [List.length_append]; omega, (ne_of_none (s67 _ _ hf5) nsc2).symm⟩
  · rintro σ H3 ⟨sc, y6, us, ds, scope, rfl, k3, D3, hf, hs, hl, S, hsl, nsf⟩
    refine ⟨.ref fo, rfl, fo, us, rfl, .inl ⟨.inl (.inl hf), fun p np => ?_⟩⟩
    have s4 := same_upd (o := .tup us) np
    exact q _ p us ds (k3.trans (Keep.of s4)) ((D3.same s4).mono (by omega)) upd_same (svs_keep (KeepT.of s4) hs) (by omega)
end
end L20

namespace WX
open PySem PySem.Spec PySem.AutoSeq1
theorem ext_tup (l : Addr) (items : Array Value) (n : Nat) (b : Addr) (items2 : Array Value) (n2 : Nat) (dd : Option Addr) (sl : Array (Option Value)) (hs0 : ¬(!items.isEmpty && Builtin.List.listTooLong (items.size + items2.size)) = true) (hs1 : items.size ≤ sizeLine) (hs2 : items.size + items2.size ≤ sizeLine + 1) :
    Meets (Builtin.«list.extend» ⟨[.ref l, .ref b], []⟩) (fun _ R s => s.heap.get? l = some { cls := .type "list", dict := none, data := .seq items n, slots := #[] } ∧ s.heap.get? b = some { cls := .type "tuple", dict := dd, data := .seq items2 n2, slots := sl } ∧ R (.ok (.ret Value.none)) { s with heap := s.heap.update l (Obj.mapSeq fun x => x ++ items2), toks := s.toks }) := by
  refine .of_wp fun prog w A R s h => ?_
  obtain ⟨hp, g, d, tk, os⟩ := s
  obtain ⟨hl, hb, h⟩ := h
  have f1 := idx_int
  have f2 := sub_tuple_tuple
  have f3 := sub_list_list
  have f4 := sub_tuple_list
  have f5 := sub_list_tuple
  have hz' : (items ++ items2).size ≤ sizeLine + 1 := by
    rw [Array.size_append]
    exact hs2
  wp_walk using (wpAny_updateSeq hl rfl (hz := hs1) (_hz' := hz')), wpAny_loadPart' hl, wpAny_loadPart' hb
  exact ⟨_, rfl, h⟩
end WX

/-! Words that the hand layer lacks: a list extended by a tuple. -/
namespace WX
open PySem PySem.Spec PyProof.Rows L2
def rExtendT (K : PySem.W.Frag) : V → List V → Hp → VK → Prop := fun x vs H Q => ∃ (l b : Addr) (xs zs : List V), x = .ref l ∧ vs = [.ref b] ∧ H l = some (.lst xs) ∧ SqT K H b zs ∧ xs.length + zs.length ≤ sizeLine ∧ Q .non (upd H l (.lst (xs ++ zs)))
section
variable {X : Cx}
theorem mt_extendT : MtM X "list.extend" (rExtendT X.K) := by
  intro pins s σ H x vs v us Q I rx rv h
  obtain ⟨l, b, xs, zs, rfl, rfl, hH, hB, hz, q⟩ := h
  cases rx
  obtain ⟨u, rfl, ru⟩ := rv.one
  cases ru
  obtain ⟨z, its, n, r, hl, e⟩ := I.lstM hH
  obtain ⟨its2, r2, ⟨⟨c2, d2, dat2, sl2⟩, g2, hc2, n2, hd2⟩, z2⟩ := I.tuple hB
  have hc2 : c2 = .type "tuple" := hc2
  have hd2 : dat2 = .seq its2.toArray n2 := hd2
  subst hc2
  subst hd2
  have hl2 := r2.length
  have small : its.toArray.size + its2.toArray.size ≤ sizeLine := by
    rw [List.size_toArray, List.size_toArray]
    omega
  have short : ¬ (!its.toArray.isEmpty && Builtin.List.listTooLong (its.toArray.size + its2.toArray.size)) = true := by
    rw [notLongL small, Bool.and_false]
    exact Bool.false_ne_true
  refine call_meets F.slot_list_extend ⟨_, e, rfl⟩ F.entry_list_extend (F.args_list_extend_2 _ _)
    (ext_tup l its.toArray n b its2.toArray n2 d2 sl2 short (by rw [List.size_toArray]; omega) (by omega)) ⟨e, g2, ?_⟩
  refine ⟨.non, _, I.lset (its' := its ++ its2) hH e (by simp) (r.append r2) ?_, rfl, q⟩
  rw [List.length_append]
  omega
/-- a list extended by a list or by a tuple -/
def rExtendA (K : PySem.W.Frag) : V → List V → Hp → VK → Prop := fun x vs H Q => rExtend x vs H Q ∨ rExtendT K x vs H Q
theorem mt_extendA : MtM X "list.extend" (rExtendA X.K) := by
  intro pins s σ H x vs v us Q I rx rv h
  rcases h with h | h
  · exact mt_extend pins s σ H x vs v us Q I rx rv h
  · exact mt_extendT pins s σ H x vs v us Q I rx rv h
end
end WX

/-! Words that the hand layer lacks: a call by place of a def with a star; max(list of ints, default=); frozen tuples; dict(tuple of pairs). -/
namespace SC
open PySem PySem.Spec PyProof.Rows L2
section
variable {X : Cx} {CX : CXT} {k : Nat} {f : Addr} {sp : Sp} {E : XK} {x : Str} {e : Expr} {es : List Expr} {t : TA} {p pos : Pos}
theorem pe_callR (F : FnR X.prog X.w X.K X.mg X.base CX k f sp) (hr : Room k X.A) (hg : Gl X x) (hm : X.mg x = some (.ref f)) (hk : PySem.W.keepIn X.K (.ref f) = true) (hx : Passes CX X E)
    (ha : PA X (e :: es) t) (hdb : (x == ("__debug__" : Str)) = false := by decide) (he : starEach (e :: es) X.env = (false, eval e X.env) :: starEach es X.env := by rfl) (hpl : (backTo pos (starEach es X.env)).any (·.1) = false := by rfl) :
    PE X (.Call (.Name x p) (e :: es) [] pos) (tCall sp [] E t) := by
  refine ⟨fun pins s σ H Q I h => ?_⟩
  refine wpAny_Call_Name_kw (ld_glob I hg hm ?_ hdb)
  refine PySem.W.callWith_K (h₀ := X.base) I.ok.mod.kin hk (thn (ha.run pos pins s σ H _ I h) fun us s1 ⟨vs, H1, I1, r, q⟩ => ⟨I1.kIn, ?_⟩) he hpl
  have q : sp (vs ++ []) H1 Q E := q
  rw [List.append_nil] at q
  exact wpAny_call (run_fnR F hr hx I1 r q)
theorem pe_callR0 (F : FnR X.prog X.w X.K X.mg X.base CX k f sp) (hr : Room k X.A) (hg : Gl X x) (hm : X.mg x = some (.ref f)) (hk : PySem.W.keepIn X.K (.ref f) = true) (hx : Passes CX X E)
    (hdb : (x == ("__debug__" : Str)) = false := by decide) : PE X (.Call (.Name x p) [] [] pos) (tCall sp [] E tNil) := by
  refine ⟨fun pins s σ H Q I h => ?_⟩
  refine wpAny_Call_Name_kw (ld_glob I hg hm ?_ hdb)
  exact PySem.W.callWith_K0 I.kIn hk (wpAny_call (run_fnR (us := []) F hr hx I .nil h))
end
/-! ### max of a list of ints, with a default -/
def rMaxI (K : PySem.W.Frag) : List V → List V → Hp → VK → Prop := fun vs zs H Q => ∃ (a : Addr) (ns : List Int) (d : V), vs = [.ref a] ∧ zs = [d] ∧ SqL K H a (ns.map V.int) ∧ ns ≠ [] ∧ ∀ n, n ∈ ns → (∀ m, m ∈ ns → m ≤ n) → Q (.int n) H
theorem holdAll_ints {h : Heap} : ∀ {ns : List Int} {us : List Value}, Vals (ns.map V.int) us → PySem.W.HoldAll h us ns
  | [], us, r => by
    rw [List.map_nil] at r
    cases r
    exact ⟨[], .nil⟩
  | n :: ns, us, r => by
    rw [List.map_cons] at r
    cases r with
    | cons a b =>
      obtain ⟨t, rfl⟩ := a
      obtain ⟨as, ih⟩ := holdAll_ints b
      exact ⟨_, .cons (.int n t) ih⟩
theorem maxI_ge : ∀ (xs : List Int) (x : Int), x ≤ PySem.W.maxOf x xs ∧ ∀ y, y ∈ xs → y ≤ PySem.W.maxOf x xs
  | [], x => ⟨Int.le_refl _, fun y h => nomatch h⟩
  | z :: xs, x => by
    have e : PySem.W.maxOf x (z :: xs) = PySem.W.maxOf (if x < z then z else x) xs := by
      show List.foldl _ _ xs = List.foldl _ _ xs
      congr 1
      show (if decide (x < z) = true then z else x) = _
      by_cases h : x < z
      · rw [if_pos h, if_pos (decide_eq_true h)]
      · rw [if_neg h, if_neg (by simpa using h)]
    obtain ⟨h1, h2⟩ := maxI_ge xs (if x < z then z else x)
    rw [e]
    refine ⟨Int.le_trans ?_ h1, fun y hy => ?_⟩
    · split <;> omega
    · rcases List.mem_cons.mp hy with rfl | hy
      · exact Int.le_trans (by split <;> omega) h1
      · exact h2 y hy
section
variable {X : Cx}
theorem cr_maxD (hc : X.calm = true) (hu : X.A.units + 1 + 0 < cLine) : CallRK X (.builtin "max") [Str.ofString "default"] (rMaxI X.K) := by
  intro pins s σ H vs zs us ws Q I r rz h
  obtain ⟨a, ns, d, rfl, rfl, hs, h0, q⟩ := h
  obtain rfl := Vals.ref1 r
  obtain ⟨w1, rfl, e1⟩ := vals1 rz
  obtain ⟨its, rv, hl, hz⟩ := I.list hs
  refine PySem.W.max_list_datum_default (α := Int) (I.ok.hd hc) hl.isList (holdAll_ints (by simpa using rv)) hu (fun z => absurd z h0) fun y ys i v h' tk e hi hv hk => ?_
  subst e
  obtain ⟨as, hv⟩ := hv
  obtain ⟨t, rfl, _⟩ := PyProof.Rows.reads_int_inv hv
  have hm : PySem.W.maxOf y ys ∈ y :: ys := by
    have hi' : its[i]? = some (.int (PySem.W.maxOf y ys) t) := by simpa using hi
    have hlt : i < its.length := (List.getElem?_eq_some_iff.mp hi').1
    rw [← rv.length, List.length_map] at hlt
    obtain ⟨u, g1, g2⟩ := rv.get (show ((y :: ys).map V.int)[i]? = some (V.int ((y :: ys)[i])) by rw [List.getElem?_map, List.getElem?_eq_getElem hlt]; rfl)
    rw [hi'] at g1
    cases g1
    obtain ⟨t', e'⟩ := g2
    have e2 : PySem.W.maxOf y ys = (y :: ys)[i] := by injection e'
    rw [e2]
    exact List.getElem_mem hlt
  have hg := maxI_ge ys y
  exact ⟨.int _, H, I.kept (t' := tk) hk, ⟨t, rfl⟩, q _ hm fun m hm' => by
    rcases List.mem_cons.mp hm' with rfl | hm'
    · exact hg.1
    · exact hg.2 m hm'⟩
end
/-! ### tuples whose objects are known; dict of such -/
/-- a tuple of which it is known that its object holds no dict -/
def TupF (H : Hp) (a : Addr) (xs : List V) : Prop := ∃ o : Obj, H a = some (.frz o (.tup xs)) ∧ o.dict = none
theorem TupF.sq {K : PySem.W.Frag} {H : Hp} {a : Addr} {xs : List V} (h : TupF H a xs) : SqT K H a xs := let ⟨o, e, _⟩ := h; .inl (.inr ⟨o, e⟩)
section
variable {X : Cx}
theorem call_tupleF : CallR X (.type "tuple") (fun xs H Q => ∃ p ys, xs = [.ref p] ∧ SqL X.K H p ys ∧ ∀ l o, o.dict = none → H l = none → Q (.ref l) (upd H l (.frz o (.tup ys)))) := by
  intro pins s σ H xs us Q I r h
  obtain ⟨p, ys, rfl, hq, q⟩ := h
  obtain ⟨u, rfl, rx⟩ := vals1 r
  cases rx
  obtain ⟨its, r', pl, hz⟩ := I.list hq
  have hlen := r'.length
  refine call_tuple_list pl.isList (fun h' kp => ?_) (by simp only [List.size_toArray] <;> omega)
  have I1 : Inv X pins σ H { s with heap := h' } := I.kept (t' := s.toks) kp
  have I2 : Inv X pins σ (upd H h'.objs.size (.frz { cls := .type "tuple", data := .seq its.toArray } (.tup ys))) { s with heap := h'.push { cls := .type "tuple", data := .seq its.toArray } } :=
    I1.laid (t' := s.toks) (fun b o e => Heap.get?_push_of_some _ e) (Nat.le_refl _) (show ObjOk X.prog X.w _ _ _ (.frz _ (.tup ys)) from ⟨Heap.get?_push_size _ rfl, hz, its, r', IsTup.new _ _⟩)
  exact ⟨.ref h'.objs.size, _, I2, rfl, q _ _ rfl (I1.hok.fresh (Nat.le_refl _))⟩
theorem pairs_of2 {pins : List (Addr × Obj)} {σ : L2.St} {H : Hp} {s : Shared} (I : Inv X pins σ H s) : ∀ {ps : List Addr} {kvs : List (Key × V)}, Paired (fun p kv => SqT X.K H p [kV kv.1, kv.2]) ps kvs →
    ∃ (prs : List (Key × Value)) (qs : List (Value × Value)), KV kvs prs ∧ prs.length = ps.length ∧ qs.length = ps.length ∧
      (∀ (j : Nat) (u v : Value), qs[j]? = some (u, v) → ∃ (b : Addr) (k : Key), ps[j]? = some b ∧ prs[j]? = some (k, v) ∧ IsTup s.heap b #[u, v] ∧ keyIs k u = true)
  | _, _, .nil => ⟨[], [], .nil, rfl, rfl, fun j u v e => by simp at e⟩
  | _, _, .cons (a := p) (b := kv) h t => by
    obtain ⟨prs, qs, r, hl, hl2, hp⟩ := pairs_of2 I t
    obtain ⟨its, rv, ht, _⟩ := I.tuple h
    obtain ⟨u, y, ei, ru, ry⟩ := vals2 rv
    subst ei
    refine ⟨(kv.1, y) :: prs, (u, y) :: qs, .cons ⟨rfl, ry⟩ r, by rw [List.length_cons, List.length_cons, hl], by rw [List.length_cons, List.length_cons, hl2], fun j u' v' e => ?_⟩
    cases j with
    | zero =>
      have e' : (u, y) = (u', v') := Option.some.inj e
      cases e'
      exact ⟨p, kv.1, rfl, rfl, ht, kV_is (P := X.prog) (w := X.w) ru⟩
    | succ j =>
      obtain ⟨b, k, e1, e2, e3, e4⟩ := hp j u' v' (by simpa using e)
      exact ⟨b, k, by simpa using e1, by simpa using e2, e3, e4⟩
theorem call_dictT (hcalm : X.calm = true) : CallR X (.type "dict") (fun xs H Q => ∃ (a : Addr) (ps : List Addr) (kvs : List (Key × V)), xs = [.ref a] ∧ TupF H a (ps.map V.ref) ∧ Paired (fun p kv => SqT X.K H p [kV kv.1, kv.2]) ps kvs ∧
    ∀ p, H p = none → Q (.ref p) (upd H p (.dK (mergeK [] kvs)))) := by
  intro pins s σ H xs us Q I r q
  obtain ⟨a, ps, kvs, ex, ⟨o, hq, hdn⟩, hp, q⟩ := q
  subst ex
  obtain ⟨u, eu, rx⟩ := vals1 r
  subst eu
  cases rx
  obtain ⟨ho, hz, its, rv, o', ho', hc, n, hdat⟩ := I.hok _ _ hq
  rw [ho] at ho'
  cases ho'
  have ei := refs_at rv
  subst ei
  rw [List.length_map] at hz
  obtain ⟨prs, qs, rel, hl, hl2, hpr⟩ := pairs_of2 I hp
  refine PySem.call_dict_pairs (knd := mixKind X.prog X.w) (kvs := prs) (PySem.PairArg.tuple a (ps.map Value.ref).toArray (fun j => ps.getD j 0) qs) (I.ok.hd hcalm) ⟨⟨o, n, ho, hc, hdn, hdat⟩, by simp [hl2], fun j k v e => ?_⟩ ⟨by rw [hl, hl2], fun i key v e => ?_⟩ (by rw [hl2]; exact hz) fun h' tk hd' k => ?_
  · obtain ⟨b, k', e1, e2, e3, e4⟩ := hpr j k v e
    have eb : ps.getD j 0 = b := by rw [List.getD_eq_getElem?_getD, e1]; rfl
    show _ ∧ PySem.PairAt s.heap (ps.getD j 0) k v
    rw [eb]
    exact ⟨by simp [e1], .inl e3⟩
  · obtain ⟨b, k', e1, e2, e3, e4⟩ := hpr i key v e
    exact ⟨k', e2, e4⟩
  · have hm : (s.heap.objs.size == sysModules) = false := beq_eq_false_iff_ne.mpr (Nat.ne_of_gt I.big)
    have hlen : (mergeK [] kvs).length ≤ sizeLine := by
      refine Nat.le_trans (length_mergeK kvs []) ?_
      rw [List.length_nil, Nat.zero_add, rel.length, hl]
      exact hz
    exact ⟨.ref s.heap.objs.size, upd H s.heap.objs.size (.dK (mergeK [] kvs)), I.laid (t' := tk) (fun b ob e => k b ob (fun z => nomatch z) e) (Nat.le_refl _) (show ObjOk X.prog X.w _ _ _ (.dK (mergeK [] kvs)) from ⟨hlen, hm, merged [] prs, KV.merge rel .nil, hd'⟩), rfl, q _ (I.hok.fresh (Nat.le_refl _))⟩
end
end SC

namespace L20
open PySem PySem.Spec PyProof.Rows L2 GR
abbrev St1 := V × PyData
abbrev En := Int × V × PyData
/-- an entry at r -/
def EnOk (K : PySem.W.Frag) (H : Hp) (r : Addr) (e : En) : Prop := H r = some (.tup [.int e.1, e.2.1]) ∧ SV K H e.2.1 e.2.2
theorem EnOk.keep {K : PySem.W.Frag} {H H' : Hp} {r : Addr} {e : En} (h : EnOk K H r e) (k : KeepT H H') : EnOk K H' r e := ⟨k.1 _ _ h.1, h.2.keep k⟩
abbrev EnsOk (K : PySem.W.Frag) (H : Hp) : List Addr → List En → Prop := Paired (EnOk K H)
theorem ens_keep {K : PySem.W.Frag} {H H' : Hp} (k : KeepT H H') : ∀ {rs : List Addr} {es : List En}, EnsOk K H rs es → EnsOk K H' rs es
  | _, _, .nil => .nil
  | _, _, .cons h t => .cons (h.keep k) (ens_keep k t)
theorem ens_append {K : PySem.W.Frag} {H : Hp} : ∀ {rs us : List Addr} {es fs : List En}, EnsOk K H rs es → EnsOk K H us fs → EnsOk K H (rs ++ us) (es ++ fs)
  | _, _, _, _, .nil, h => h
  | _, _, _, _, .cons h t, g => .cons h (ens_append t g)
theorem ens_len {K : PySem.W.Frag} {H : Hp} {rs : List Addr} {es : List En} (h : EnsOk K H rs es) : rs.length = es.length := Paired.length h
def ed (e : En) : PyData := .tuple [.int e.1, e.2.2]
def logD (ms : List Int) (es : List En) : PyData := .tuple [.tuple (ms.map PyData.int), .tuple (es.map ed)]
/-- a log at p -/
def Lg (K : PySem.W.Frag) (H : Hp) (p : Addr) (ms : List Int) (es : List En) : Prop := ∃ (mp ep : Addr) (rs : List Addr), H p = some (.tup [.ref mp, .ref ep]) ∧ H mp = some (.tup (ms.map V.int)) ∧ Rd H ep (.tup (rs.map V.ref)) ∧ EnsOk K H rs es
theorem rd_keep {H H' : Hp} {a : Addr} {xs : List V} (h : Rd H a (.tup xs)) (k : KeepT H H') : Rd H' a (.tup xs) := by
  rcases h with h | ⟨o, h⟩
  · exact .inl (k.1 _ _ h)
  · exact .inr ⟨o, k.2 _ _ _ h⟩
/-- a log whose tuple of entries has an object known to hold no dict -/
def LgF (K : PySem.W.Frag) (H : Hp) (p : Addr) (ms : List Int) (es : List En) : Prop := ∃ (mp ep : Addr) (rs : List Addr), H p = some (.tup [.ref mp, .ref ep]) ∧ H mp = some (.tup (ms.map V.int)) ∧ SC.TupF H ep (rs.map V.ref) ∧ EnsOk K H rs es
theorem LgF.lg {K : PySem.W.Frag} {H : Hp} {p : Addr} {ms : List Int} {es : List En} (h : LgF K H p ms es) : Lg K H p ms es := by
  obtain ⟨mp, ep, rs, h1, h2, ⟨o, h3, _⟩, h4⟩ := h
  exact ⟨mp, ep, rs, h1, h2, .inr ⟨o, h3⟩, h4⟩
theorem tupF_keep {H H' : Hp} {a : Addr} {xs : List V} (h : SC.TupF H a xs) (k : KeepT H H') : SC.TupF H' a xs := let ⟨o, e, d⟩ := h; ⟨o, k.2 _ _ _ e, d⟩
theorem LgF.keep {K : PySem.W.Frag} {H H' : Hp} {p : Addr} {ms : List Int} {es : List En} (h : LgF K H p ms es) (k : KeepT H H') : LgF K H' p ms es := by
  obtain ⟨mp, ep, rs, h1, h2, h3, h4⟩ := h
  exact ⟨mp, ep, rs, k.1 _ _ h1, k.1 _ _ h2, tupF_keep h3 k, ens_keep k h4⟩
theorem Lg.keep {K : PySem.W.Frag} {H H' : Hp} {p : Addr} {ms : List Int} {es : List En} (h : Lg K H p ms es) (k : KeepT H H') : Lg K H' p ms es := by
  obtain ⟨mp, ep, rs, h1, h2, h3, h4⟩ := h
  exact ⟨mp, ep, rs, k.1 _ _ h1, k.1 _ _ h2, rd_keep h3 k, ens_keep k h4⟩
theorem dp_ints' {K : PySem.W.Frag} {H : Hp} : ∀ ns : List Int, DpAll K H (ns.map V.int) (ns.map PyData.int)
  | [] => .nil
  | n :: ns => .cons (.int n) (dp_ints' ns)
theorem sv_dp {K : PySem.W.Frag} {H : Hp} {v : V} {x : PyData} (h : SV K H v x) : Dp K H v x ∧ Fine 8 12000 x := by
  obtain ⟨p, w, v1, vs, rfl, h1, h2, h3, h4⟩ := h
  exact ⟨h3, h4⟩
theorem ens_dp {K : PySem.W.Frag} {H : Hp} : ∀ {rs : List Addr} {es : List En}, EnsOk K H rs es → DpAll K H (rs.map V.ref) (es.map ed)
  | _, _, .nil => .nil
  | _, _, .cons h t => .cons (.tup (.inl (.inl h.1)) (.cons (.int _) (.cons (sv_dp h.2).1 .nil))) (ens_dp t)
theorem Lg.dp {K : PySem.W.Frag} {H : Hp} {p : Addr} {ms : List Int} {es : List En} (h : Lg K H p ms es) : Dp K H (.ref p) (logD ms es) := by
  obtain ⟨mp, ep, rs, h1, h2, h3, h4⟩ := h
  exact .tup (.inl (.inl h1)) (.cons (.tup (.inl (.inl h2)) (dp_ints' ms)) (.cons (.tup (.inl h3) (ens_dp h4)) .nil))
/-- what is true of its numbers -/
structure OkL (ms : List Int) (es : List En) : Prop where
  asc : (es.map (·.1)).Pairwise (· < ·)
  mono : ms.Pairwise (· ≤ ·)
  eb : ∀ e, e ∈ es → 0 ≤ e.1 ∧ e.1 ≤ 10000
  mb : ∀ m, m ∈ ms → 0 ≤ m ∧ m ≤ 10000
  m0 : (0 : Int) ∈ ms
  ml : ms.length ≤ 6
  el : es.length ≤ 24
/-- the transactions in the list at so -/
structure Sm (K : PySem.W.Frag) (H : Hp) (so : Addr) (T : List (Addr × List St1)) : Prop where
  at' : H so = some (.lst (T.map fun t => V.ref t.1))
  tr : ∀ t, t ∈ T → H t.1 = some (.tup (t.2.map (·.1))) ∧ t.2.length ≤ 6 ∧ ∀ s, s ∈ t.2 → SV K H s.1 s.2
  len : T.length ≤ 4
theorem Sm.keep {K : PySem.W.Frag} {H H' : Hp} {so : Addr} {T : List (Addr × List St1)} (h : Sm K H so T) (k : KeepT H H') (hs : H' so = H so) : Sm K H' so T :=
  ⟨hs.trans h.at', fun t ht => ⟨k.1 _ _ (h.tr t ht).1, (h.tr t ht).2.1, fun s hs' => ((h.tr t ht).2.2 s hs').keep k⟩, h.len⟩
def entN (k : Nat) : List St1 → List En
  | [] => []
  | s :: l => ((k : Int), s.1, s.2) :: entN (k + 1) l
def mks (k : Nat) : List (List St1) → List Int
  | [] => []
  | t :: T => ((k + t.length : Nat) : Int) :: mks (k + t.length) T
theorem entN_append : ∀ (a b : List St1) (k : Nat), entN k (a ++ b) = entN k a ++ entN (k + a.length) b
  | [], b, k => rfl
  | s :: a, b, k => by
    rw [List.cons_append, entN, entN, entN_append a b (k + 1), List.cons_append, List.length_cons, show k + 1 + a.length = k + (a.length + 1) by omega]
theorem entN_len : ∀ (a : List St1) (k : Nat), (entN k a).length = a.length
  | [], k => rfl
  | s :: a, k => by rw [entN, List.length_cons, List.length_cons, entN_len a (k + 1)]
theorem mks_append : ∀ (a b : List (List St1)) (k : Nat), mks k (a ++ b) = mks k a ++ mks (k + a.flatten.length) b
  | [], b, k => rfl
  | t :: a, b, k => by
    rw [List.cons_append, mks, mks, mks_append a b, List.cons_append, List.flatten_cons, List.length_append, Nat.add_assoc]
theorem mks_len : ∀ (a : List (List St1)) (k : Nat), (mks k a).length = a.length
  | [], k => rfl
  | t :: a, k => by rw [mks, List.length_cons, List.length_cons, mks_len a]
theorem entN_ge : ∀ (a : List St1) (k : Nat) (e : En), e ∈ entN k a → (k : Int) ≤ e.1 ∧ e.1 < ((k + a.length : Nat) : Int)
  | [], k, e, h => (nomatch h)
  | s :: a, k, e, h => by
    rw [entN] at h
    rw [List.length_cons]
    rcases List.mem_cons.mp h with rfl | h
    · exact ⟨Int.le_refl _, by show (k : Int) < _; omega⟩
    · have := entN_ge a (k + 1) e h
      omega
theorem entN_asc : ∀ (a : List St1) (k : Nat), ((entN k a).map (·.1)).Pairwise (· < ·)
  | [], k => .nil
  | s :: a, k => by
    rw [entN, List.map_cons]
    refine .cons (fun m hm => ?_) (entN_asc a (k + 1))
    obtain ⟨e, he, rfl⟩ := List.mem_map.mp hm
    have := (entN_ge a (k + 1) e he).1
    show (k : Int) < e.1
    omega
theorem mks_ge : ∀ (a : List (List St1)) (k : Nat) (m : Int), m ∈ mks k a → (k : Int) ≤ m ∧ m ≤ ((k + a.flatten.length : Nat) : Int)
  | [], k, m, h => (nomatch h)
  | t :: a, k, m, h => by
    rw [mks] at h
    rw [List.flatten_cons, List.length_append]
    rcases List.mem_cons.mp h with rfl | h
    · omega
    · have := mks_ge a (k + t.length) m h
      omega
theorem mks_mono : ∀ (a : List (List St1)) (k : Nat), (mks k a).Pairwise (· ≤ ·)
  | [], k => .nil
  | t :: a, k => by
    rw [mks]
    exact .cons (fun m hm => (mks_ge a _ m hm).1) (mks_mono a _)
theorem flat_len {T : List (List St1)} {b : Nat} : (∀ t, t ∈ T → t.length ≤ b) → T.flatten.length ≤ T.length * b := by
  induction T with
  | nil => intro _; exact Nat.zero_le _
  | cons t T ih =>
    intro h
    have h1 := h t List.mem_cons_self
    have h2 := ih fun y hy => h y (List.mem_cons_of_mem _ hy)
    rw [List.flatten_cons, List.length_append, List.length_cons, Nat.succ_mul]
    omega
theorem okL_counted {T : List (List St1)} (h1 : T.length ≤ 4) (h2 : ∀ t, t ∈ T → t.length ≤ 6) : OkL (0 :: mks 0 T) (entN 0 T.flatten) := by
  have hf := flat_len h2
  have hf30 : T.flatten.length ≤ 24 := by omega
  refine ⟨entN_asc _ _, .cons (fun m hm => (mks_ge T 0 m hm).1) (mks_mono T 0), fun e he => ?_, fun m hm => ?_, List.mem_cons_self, by rw [List.length_cons, mks_len]; omega, by rw [entN_len]; exact hf30⟩
  · have := entN_ge _ _ e he
    omega
  · rcases List.mem_cons.mp hm with rfl | hm
    · omega
    · have := mks_ge T 0 m hm
      omega
/-! ### how it is shown -/
theorem fines_ints {k : Nat} : ∀ {ms : List Int}, (∀ m, m ∈ ms → 0 ≤ m ∧ m ≤ 10000) → Fines k (22 * ms.length) (ms.map PyData.int)
  | [], _ => .nil
  | m :: ms, h => by
    have h1 := h m List.mem_cons_self
    have h2 := fines_ints (k := k) fun y hy => h y (List.mem_cons_of_mem _ hy)
    rw [List.length_cons, show 22 * (ms.length + 1) = 22 + 22 * ms.length by omega, List.map_cons]
    exact .cons (Fine.int (by omega) (by omega)).k0 h2
theorem fines_ens {es : List En} (h : ∀ e, e ∈ es → (0 ≤ e.1 ∧ e.1 ≤ 10000) ∧ Fine 8 12000 e.2.2) : Fines 9 (12030 * es.length) (es.map ed) := by
  induction es with
  | nil => exact .nil
  | cons e es ih =>
    have h1 := h e List.mem_cons_self
    rw [List.length_cons, show 12030 * (es.length + 1) = 12030 + 12030 * es.length by omega, List.map_cons]
    exact .cons (((Fines.cons (Fine.int (by omega) (by omega)).k0 (.cons h1.2 .nil)).tup).mono (by decide) (by decide)) (ih fun y hy => h y (List.mem_cons_of_mem _ hy))
theorem ens_fine {K : PySem.W.Frag} {H : Hp} : ∀ {rs : List Addr} {es : List En}, EnsOk K H rs es → ∀ e, e ∈ es → Fine 8 12000 e.2.2
  | _, _, .nil, e, h => (nomatch h)
  | _, _, .cons h t, e, he => by
    rcases List.mem_cons.mp he with rfl | he
    · exact (sv_dp h.2).2
    · exact ens_fine t e he
theorem Lg.fine {K : PySem.W.Frag} {H : Hp} {p : Addr} {ms : List Int} {es : List En} (h : Lg K H p ms es) (o : OkL ms es) : Fine 11 400000 (logD ms es) := by
  obtain ⟨mp, ep, rs, h1, h2, h3, h4⟩ := h
  have a := (fines_ints (k := 0) o.mb).tup
  have b := (fines_ens fun e he => ⟨o.eb e he, ens_fine h4 e he⟩).tup
  have ml := o.ml
  have el := o.el
  exact ((Fines.cons (a.mono (show 0 + 1 ≤ 10 by decide) (Nat.le_refl _)) (.cons b .nil)).tup).mono (by decide) (by omega)
theorem Sm.upd {K : PySem.W.Frag} {H : Hp} {so b : Addr} {T : List (Addr × List St1)} {ys zs : List V} (h : Sm K H so T) (hb : H b = some (.lst ys)) (n : so ≠ b) : Sm K (L2.upd H b (.lst zs)) so T := h.keep (KeepT.lst hb) (upd_ne n)
theorem Sm.same {K : PySem.W.Frag} {H H' : Hp} {so : Addr} {T : List (Addr × List St1)} (h : Sm K H so T) (s : Same H H') : Sm K H' so T := h.keep (KeepT.of s) (by rw [h.at']; exact s _ _ h.at')
theorem take_next {α : Type} {l : List α} {i : Nat} {x : α} (h : l[i]? = some x) : l.take (i + 1) = l.take i ++ [x] := by
  rw [List.take_add_one, h]
  rfl
end L20

namespace L20
open PySem PySem.Spec PyProof.Rows L2 GR
/-! ### what stands where -/
/-- the statement at a place -/
def stAt : List En → Int → V
  | [], _ => .non
  | e :: es, p => if e.1 = p then e.2.1 else stAt es p
theorem ens_get {K : PySem.W.Frag} {H : Hp} : ∀ {rs : List Addr} {es : List En}, EnsOk K H rs es → ∀ {i : Nat} {e : En}, es[i]? = some e → ∃ r, rs[i]? = some r ∧ EnOk K H r e
  | _, _, .nil, i, e, h => by simp at h
  | _, _, .cons (a := r) h t, 0, e, h' => by cases h'; exact ⟨r, rfl, h⟩
  | _, _, .cons h t, i + 1, e, h' => by
    obtain ⟨r, h1, h2⟩ := ens_get t (by simpa using h')
    exact ⟨r, by simpa using h1, h2⟩
theorem ens_at {K : PySem.W.Frag} {H : Hp} : ∀ {rs : List Addr} {es : List En}, EnsOk K H rs es → ∀ {i : Nat} {r : Addr}, rs[i]? = some r → ∃ e, es[i]? = some e ∧ EnOk K H r e
  | _, _, .nil, i, e, h => by simp at h
  | _, _, .cons (b := e) h t, 0, r, h' => by cases h'; exact ⟨e, rfl, h⟩
  | _, _, .cons h t, i + 1, r, h' => by
    obtain ⟨e, h1, h2⟩ := ens_at t (by simpa using h')
    exact ⟨e, by simpa using h1, h2⟩
theorem drop_at {α : Type} {l : List α} {i : Nat} {x : α} (h : l[i]? = some x) : l.drop i = x :: l.drop (i + 1) := by
  obtain ⟨hi, e⟩ := List.getElem?_eq_some_iff.mp h
  rw [List.drop_eq_getElem_cons hi, e]
end L20

namespace L20
open PySem PySem.Spec PyProof.Rows L2 GR
/-- the numbers of a log that is being made; a: the next place -/
structure Nu (ms : List Int) (es : List En) (a : Int) : Prop where
  asc : (es.map (·.1)).Pairwise (· < ·)
  lt : ∀ e, e ∈ es → 0 ≤ e.1 ∧ e.1 < a
  mono : ms.Pairwise (· ≤ ·)
  le : ∀ m, m ∈ ms → 0 ≤ m ∧ m ≤ a
  m0 : ms.head? = some 0
  a0 : 0 ≤ a
theorem Nu.more {ms : List Int} {es : List En} {a b : Int} (h : Nu ms es a) (k : a ≤ b) : Nu ms es b :=
  ⟨h.asc, fun e he => by have := h.lt e he; omega, h.mono, fun m hm => by have := h.le m hm; omega, h.m0, by have := h.a0; omega⟩
theorem Nu.line {ms : List Int} {es : List En} {a : Int} (h : Nu ms es a) (v : V) (x : PyData) : Nu ms (es ++ [(a, v, x)]) (a + 1) := by
  refine ⟨?_, fun e he => ?_, h.mono, fun m hm => by have := h.le m hm; omega, h.m0, by have := h.a0; omega⟩
  · rw [List.map_append, List.pairwise_append]
    refine ⟨h.asc, List.pairwise_singleton _ _, fun x hx y hy => ?_⟩
    obtain ⟨e, he, rfl⟩ := List.mem_map.mp hx
    rw [List.mem_singleton.mp hy]
    exact (h.lt e he).2
  · rcases List.mem_append.mp he with he | he
    · have := h.lt e he
      omega
    · rw [List.mem_singleton.mp he]
      have := h.a0
      exact ⟨this, by show a < a + 1; omega⟩
theorem Nu.mark {ms : List Int} {es : List En} {a : Int} (h : Nu ms es a) : Nu (ms ++ [a]) es a := by
  refine ⟨h.asc, h.lt, ?_, fun m hm => ?_, ?_, h.a0⟩
  · rw [List.pairwise_append]
    refine ⟨h.mono, List.pairwise_singleton _ _, fun x hx y hy => ?_⟩
    rw [List.mem_singleton.mp hy]
    exact (h.le x hx).2
  · rcases List.mem_append.mp hm with hm | hm
    · exact h.le m hm
    · rw [List.mem_singleton.mp hm]
      exact ⟨h.a0, Int.le_refl _⟩
  · rw [List.head?_append, h.m0]
    rfl
theorem head_mem {l : List Int} {a : Int} (h : l.head? = some a) : a ∈ l := by
  cases l with
  | nil => cases h
  | cons b l => cases h; exact List.mem_cons_self
theorem Nu.ok {ms : List Int} {es : List En} {a : Int} (h : Nu ms es a) (h1 : a ≤ 10000) (h2 : ms.length ≤ 6) (h3 : es.length ≤ 24) : OkL ms es :=
  ⟨h.asc, h.mono, fun e he => by have := h.lt e he; omega, fun m hm => by have := h.le m hm; omega, head_mem h.m0, h2, h3⟩
/-- the last mark becomes 10000 -/
theorem Nu.last {ms : List Int} {es : List En} {a : Int} (h : Nu ms es a) (h1 : a ≤ 10000) (h2 : ms.length ≤ 6) (h3 : es.length ≤ 24) (h4 : 1 < ms.length) : OkL (ms.set (ms.length - 1) 10000) es := by
  obtain ⟨fr, b, rfl⟩ : ∃ fr b, ms = fr ++ [b] := ⟨ms.dropLast, ms.getLast (fun z => by rw [z] at h4; cases h4), (List.dropLast_concat_getLast _).symm⟩
  have e : (fr ++ [b]).set ((fr ++ [b]).length - 1) 10000 = fr ++ [10000] := by
    rw [List.length_append, List.length_singleton, Nat.add_sub_cancel, List.set_append_right _ _ (Nat.le_refl _), Nat.sub_self]
    rfl
  rw [e]
  have hm := (List.pairwise_append.mp h.mono).1
  refine ⟨h.asc, ?_, fun e he => by have := h.lt e he; omega, fun m hm => ?_, ?_, by rw [List.length_append] at h2 ⊢; exact h2, h3⟩
  · rw [List.pairwise_append]
    refine ⟨hm, List.pairwise_singleton _ _, fun x hx y hy => ?_⟩
    rw [List.mem_singleton.mp hy]
    have := h.le x (List.mem_append_left _ hx)
    omega
  · rcases List.mem_append.mp hm with hm | hm
    · have := h.le m (List.mem_append_left _ hm)
      omega
    · rw [List.mem_singleton.mp hm]
      omega
  · cases fr with
    | nil => simp at h4
    | cons f fr =>
      have := h.m0
      cases this
      exact List.mem_cons_self
/-- two lists are being made beside a deck -/
structure He (K : PySem.W.Frag) (d c : Addr) (H0 : Hp) (mb lb : Addr) (ms : List Int) (es : List En) (H : Hp) : Prop where
  hm : H mb = some (.lst (ms.map V.int))
  hl : ∃ rs : List Addr, H lb = some (.lst (rs.map V.ref)) ∧ EnsOk K H rs es
  old : ∀ b ob, b ≠ d → b ≠ c → b ≠ mb → b ≠ lb → H0 b = some ob → H b = some ob
theorem He.keep {K : PySem.W.Frag} {d c : Addr} {H0 H H' : Hp} {mb lb : Addr} {ms : List Int} {es : List En} (t : He K d c H0 mb lb ms es H) (k : Keep d c H H') (kt : KeepT H H') (m : mb ≠ d ∧ mb ≠ c) (l : lb ≠ d ∧ lb ≠ c) : He K d c H0 mb lb ms es H' := by
  obtain ⟨rs, h1, h2⟩ := t.hl
  exact ⟨k _ _ m.1 m.2 t.hm, ⟨rs, k _ _ l.1 l.2 h1, ens_keep kt h2⟩, fun b ob n1 n2 n3 n4 e => k _ _ n1 n2 (t.old b ob n1 n2 n3 n4 e)⟩
theorem He.line {K : PySem.W.Frag} {d c : Addr} {H0 H : Hp} {mb lb r : Addr} {ms : List Int} {es : List En} {e : En} (t : He K d c H0 mb lb ms es H) (hml : mb ≠ lb) (hr : EnOk K H r e) : ∃ rs : List Addr, H lb = some (.lst (rs.map V.ref)) ∧ rs.length = es.length ∧ He K d c H0 mb lb ms (es ++ [e]) (upd H lb (.lst (rs.map V.ref ++ [.ref r]))) := by
  obtain ⟨rs, h1, h2⟩ := t.hl
  have kt : KeepT H (upd H lb (.lst (rs.map V.ref ++ [.ref r]))) := KeepT.lst h1
  refine ⟨rs, h1, ens_len h2, by rw [upd_ne hml]; exact t.hm, ⟨rs ++ [r], by rw [List.map_append]; exact upd_same, ens_append (ens_keep kt h2) (.cons (hr.keep kt) .nil)⟩, fun b ob n1 n2 n3 n4 e => ?_⟩
  rw [upd_ne n4]
  exact t.old b ob n1 n2 n3 n4 e
theorem He.marks {K : PySem.W.Frag} {d c : Addr} {H0 H : Hp} {mb lb : Addr} {ms ms' : List Int} {es : List En} (t : He K d c H0 mb lb ms es H) (hml : mb ≠ lb) : He K d c H0 mb lb ms' es (upd H mb (.lst (ms'.map V.int))) := by
  obtain ⟨rs, h1, h2⟩ := t.hl
  have kt : KeepT H (upd H mb (.lst (ms'.map V.int))) := KeepT.lst t.hm
  refine ⟨upd_same, ⟨rs, by rw [upd_ne hml.symm]; exact h1, ens_keep kt h2⟩, fun b ob n1 n2 n3 n4 e => ?_⟩
  rw [upd_ne n3]
  exact t.old b ob n1 n2 n3 n4 e
end L20

namespace L20
open PySem PySem.Spec PyProof.Rows L2 GR
section
variable {P : Program} {w : World} {K : PySem.W.Frag} {mg : Str → Option Value} {base : Heap}
abbrev s_law_spread : Stmt := topS 26
abbrev N_sp : List Str := ["_law_deck_here", "_law_some", "_law_marks", "_law_lines", "_law_at", "_law_transaction_here", "_law_statement_here"]
theorem sc_law_spread : FnScope N_sp ["_law_deck_here", "_law_some"] (defScope s_law_spread) := ⟨rfl, rfl, rfl, by decide +kernel, rfl, by decide +kernel, by decide +kernel⟩
def sp_spread (K : PySem.W.Frag) : Sp := fun vs H Q _ => ∃ (d c so : Addr) (N : Int) (T : List (Addr × List St1)), vs = [.ref d, .ref so] ∧ Deck H d c N ∧ N < 2 ^ 59 ∧ Sm K H so T ∧ so ≠ d ∧ so ≠ c ∧
  ∀ H' p ms es, Keep d c H H' → Deck H' d c (N + 100) → LgF K H' p ms es → OkL ms es → Q (.ref p) H'
/-- the state between statements -/
structure Zu (K : PySem.W.Frag) (d c so : Addr) (N : Int) (T : List (Addr × List St1)) (H0 : Hp) (mb lb : Addr) (ms : List Int) (es : List En) (a : Int) (H : Hp) : Prop where
  he : He K d c H0 mb lb ms es H
  nu : Nu ms es a
  dk : Deck H d c N
  sm : Sm K H so T
theorem Zu.draw {K : PySem.W.Frag} {d c so : Addr} {N M : Int} {T : List (Addr × List St1)} {H0 H H' : Hp} {mb lb : Addr} {ms : List Int} {es : List En} {a : Int} (z : Zu K d c so N T H0 mb lb ms es a H) (k : Keep d c H H') (D : Deck H' d c M) (m : mb ≠ d ∧ mb ≠ c) (l : lb ≠ d ∧ lb ≠ c) (o : so ≠ d ∧ so ≠ c) : Zu K d c so M T H0 mb lb ms es a H' :=
  ⟨z.he.keep k (k.t z.dk) m l, z.nu, D, z.sm.keep (k.t z.dk) (by rw [z.sm.at']; exact k _ _ o.1 o.2 z.sm.at')⟩
theorem Zu.same {K : PySem.W.Frag} {d c so : Addr} {N : Int} {T : List (Addr × List St1)} {H0 H H' : Hp} {mb lb : Addr} {ms : List Int} {es : List En} {a : Int} (z : Zu K d c so N T H0 mb lb ms es a H) (s : Same H H') (m : mb ≠ d ∧ mb ≠ c) (l : lb ≠ d ∧ lb ≠ c) (o : so ≠ d ∧ so ≠ c) : Zu K d c so N T H0 mb lb ms es a H' := z.draw (Keep.of s) (z.dk.same s) m l o
theorem ok_spread {f f_law_draw f_law_pick : Addr} {fd fd_law_draw fd_law_pick : FuncData} {k : Nat} (F : Fun K "_law_spread" "_law_spread" s_law_spread f fd) (G_law_draw : FnOk P w K mg base CX0 k f_law_draw fd_law_draw ["_law_deck_here", "_law_most"] sp_draw)
    (g_law_draw : mg "_law_draw" = some (.ref f_law_draw)) (K_law_draw : PySem.W.keepIn K (.ref f_law_draw) = true) (b_law_draw : Binds K fd_law_draw ["_law_deck_here", "_law_most"] [])
    (G_law_pick : FnOk P w K mg base CX0 k f_law_pick fd_law_pick ["_law_deck_here", "_law_some"] (sp_pick K))
    (g_law_pick : mg "_law_pick" = some (.ref f_law_pick)) (K_law_pick : PySem.W.keepIn K (.ref f_law_pick) = true) (b_law_pick : Binds K fd_law_pick ["_law_deck_here", "_law_some"] [])
    (mlen : mg "len" = none) (mtuple : mg "tuple" = none) : FnOk P w K mg base CX0 (k + 1) f fd ["_law_deck_here", "_law_some"] (sp_spread K) := by
  have nd := sc_law_spread.nd
  refine F.ok sc_law_spread (fun vs H Q E h => ?_) (fun cdv A outer s H vs Q E hr h => ?_)
  · obtain ⟨d, c, so, N, T, rfl, _⟩ := h
    rfl
  obtain ⟨d, c, so, N, T, rfl, D, hN, S, hsd, hsc, q⟩ := h
  refine ⟨_, (pss_cons (ps_set (i := 2) nd rfl (.inl rfl) (pe_lst (pa_cons pe_int pa_nil)))
      (pss_cons (ps_set (i := 3) nd rfl (.inl rfl) (pe_lst pa_nil))
      (pss_cons (ps_set (i := 4) nd rfl (.inl rfl) pe_int)
      (pss_cons (ps_for PassesOwn.never rfl (pi_list (pv 1)) (pg_name (i := 5) nd rfl (Or.inl rfl))
      (pss_cons (ps_for PassesOwn.never rfl (pi_tup (pv 5)) (pg_name (i := 6) nd rfl (Or.inl rfl))
        (pss_cons (ps_set (i := 4) nd rfl (.inl rfl) (pe_op op_add (pv 4) (pe_call G_law_pick hr (by rfl) g_law_pick K_law_pick b_law_pick .nil pass0 (pa_cons (pv 0) (pa_cons (pe_lst (pa_cons pe_int (pa_cons pe_int (pa_cons pe_int (pa_cons pe_int pa_nil))))) pa_nil)))))
          (pss_cons (ps_expr (pe_bm PySem.F.plainAttrs_list PySem.F.slot_list_append PySem.F.type_list_append mt_append (pv 3) (pa_cons (pe_tup (pa_cons (pv 4) (pa_cons (pv 6) pa_nil))) pa_nil)))
          (pss_one (ps_set (i := 4) nd rfl (.inl rfl) (pe_op op_add (pv 4) pe_int))))))
        (pss_cons (ps_set (i := 4) nd rfl (.inl rfl) (pe_op op_add (pv 4) (pe_call G_law_pick hr (by rfl) g_law_pick K_law_pick b_law_pick .nil pass0 (pa_cons (pv 0) (pa_cons (pe_lst (pa_cons pe_int (pa_cons pe_int (pa_cons pe_int (pa_cons pe_int pa_nil))))) pa_nil)))))
        (Evl.pss_cut (ps_if (PW.pt (pw_and (pt_cmpR op_lt (pv 4) pe_int (nomark _)) (pw_and1 (pt_cmpR op_eq (pe_call G_law_draw hr (by rfl) g_law_draw K_law_draw b_law_draw .nil pass0 (pa_cons (pv 0) (pa_cons pe_int pa_nil))) pe_int (nomark _)))))
        (pss_one (ps_set (i := 4) nd rfl (.inl rfl) (pe_op op_add (pv 4) pe_int)))
        pss_nil)
        (pss_one (ps_expr (pe_bm PySem.F.plainAttrs_list PySem.F.slot_list_append PySem.F.type_list_append mt_append (pv 2) (pa_cons (pv 4) pa_nil))))))))
      (Evl.pss_cut (ps_if (PW.pt (pw_and (pt_cmpR op_gt (pe_callB call_len_seq (by rfl) mlen PySem.boot_len (pa_cons (pv 2) pa_nil)) pe_int (nomark _)) (pw_and1 (pt_cmpR op_eq (pe_call G_law_draw hr (by rfl) g_law_draw K_law_draw b_law_draw .nil pass0 (pa_cons (pv 0) (pa_cons pe_int pa_nil))) pe_int (nomark _)))))
      (pss_one (ps_asg pe_int (pg_sub (pv 2) (pe_un un_neg pe_int) set_list)))
      pss_nil)
      (pss_one (ps_ret (pe_tup (pa_cons (pe_callTy call_tuple_of (by rfl) mtuple boot_tuple (pa_cons (pv 2) pa_nil)) (pa_cons (pe_callTy SC.call_tupleF (by rfl) mtuple boot_tuple (pa_cons (pv 3) pa_nil)) pa_nil)))))))))), ?_⟩
  refine ⟨h1000 (show 1 ≤ 1000 by decide), fun mb nmb => ⟨Nat.zero_le _, fun lb nlb => ?_⟩⟩
  have s1 := same_upd (o := .lst [.int 0]) nmb
  have s2 := same_upd (o := .lst []) nlb
  have nlH : H lb = none := s1.free nlb
  have hml : mb ≠ lb := ne_of_none (show upd H mb (.lst [.int 0]) mb = some (.lst [.int 0]) from upd_same) nlb
  have hmd := D.new nmb
  have hld := D.new nlH
  have s12 := s1.trans s2
  have hsm : so ≠ mb := ne_of_none S.at' nmb
  have hsl : so ≠ lb := ne_of_none S.at' nlH
  have Z1 : Zu K d c so N T H mb lb [0] [] 0 (upd (upd H mb (.lst [.int 0])) lb (.lst [])) :=
    ⟨⟨s2 _ _ upd_same, ⟨[], upd_same, .nil⟩, fun b ob _ _ n1 n2 e => s12 _ _ e⟩, ⟨.nil, fun e he => (nomatch he), List.pairwise_singleton _ _, fun m hm => by rw [List.mem_singleton.mp hm]; exact ⟨Int.le_refl _, Int.le_refl _⟩, rfl, Int.le_refl _⟩, D.same s12, S.same s12⟩
  revert Z1
  generalize upd (upd H mb (.lst [.int 0])) lb (.lst []) = H1
  intro Z1
  -- a draw of one of four
  have pick : ∀ {H' : Hp} {ms : List Int} {es : List En} {a M n4 : Int} {Q : VK}, Zu K d c so M T H mb lb ms es a H' → M < 2 ^ 60 → 1 ≤ n4 → (∀ H'' r, 0 ≤ r → r ≤ n4 → Zu K d c so (M + 1) T H mb lb ms es a H'' → Q (.int r) H'') →
      4 ≤ sizeLine ∧ ∀ l, H' l = none → sp_pick K [.ref d, .ref l] (upd H' l (.lst [.int 0, .int 0, .int 1, .int n4])) Q E0 := fun {H' ms es a M n4 Q} Z hM p1 hQ => by
    refine ⟨h1000 (show 4 ≤ 1000 by decide), fun l nl => .inl ⟨d, c, l, M, [.int 0, .int 0, .int 1, .int n4], rfl, ?_⟩⟩
    have sl := same_upd (o := .lst [.int 0, .int 0, .int 1, .int n4]) nl
    have hl := Z.dk.new nl
    have Z' := Z.same sl hmd hld ⟨hsd, hsc⟩
    refine ⟨Z'.dk, hM, .inl (.inl upd_same), List.cons_ne_nil _ _, by show 4 ≤ 1000; decide, hl.1, hl.2, fun H'' v k D' hv => ?_⟩
    have Z'' := Z'.draw k D' hmd hld ⟨hsd, hsc⟩
    rcases List.mem_cons.mp hv with rfl | hv
    · exact hQ H'' _ (by omega) (by omega) Z''
    rcases List.mem_cons.mp hv with rfl | hv
    · exact hQ H'' _ (by omega) (by omega) Z''
    rcases List.mem_cons.mp hv with rfl | hv
    · exact hQ H'' _ (by omega) (by omega) Z''
    rw [List.mem_singleton.mp hv]
    exact hQ H'' _ (by omega) (by omega) Z''
  have hT5 := S.len
  refine ⟨.ref so, rfl, so, rfl, ⟨_, .inl (.inl Z1.sm.at')⟩, ?_⟩
  refine for_list (xs := T.map fun t => V.ref t.1) (fun i σ H' => ∃ (a : Int) (y5 y6 : Option V) (ms : List Int) (es : List En), σ = [some (.ref d), some (.ref so), some (.ref mb), some (.ref lb), some (.int a), y5, y6] ∧ Zu K d c so (N + 10 * (i : Int)) T H mb lb ms es a H' ∧ a ≤ 9000 + 21 * (i : Int) ∧ ms.length = i + 1 ∧ es.length ≤ 6 * i) ?_ ?_ ?_ ?_
  · exact ⟨0, none, none, [0], [], rfl, by rw [show N + 10 * ((0 : Nat) : Int) = N by omega]; exact Z1, by omega, rfl, Nat.zero_le _⟩
  · rintro i σ H' _ ⟨_, _, _, _, _, rfl, Z, _⟩
    exact .inl (.inl Z.sm.at')
  · rintro i x σ H2 hx ⟨a, y5, y6, ms, es, rfl, Z2, ha, hms, hes⟩
    rw [List.getElem?_map] at hx
    obtain ⟨t, ht, rfl⟩ := Option.map_eq_some_iff.mp hx
    have htm := List.mem_of_getElem? ht
    have hi : i < T.length := (List.getElem?_eq_some_iff.mp ht).1
    have ht6 := (Z2.sm.tr t htm).2.1
    refine ⟨.ref t.1, rfl, t.1, rfl, ⟨_, .inl (.inl (Z2.sm.tr t htm).1)⟩, ?_⟩
    refine for_tup (xs := t.2.map (·.1)) (fun j σ H' => ∃ (b : Int) (y6 : Option V) (es : List En), σ = [some (.ref d), some (.ref so), some (.ref mb), some (.ref lb), some (.int b), some (.ref t.1), y6] ∧ Zu K d c so (N + 10 * (i : Int) + (j : Int)) T H mb lb ms es b H' ∧ b ≤ a + 3 * (j : Int) ∧ es.length ≤ 6 * i + j) ?_ ?_ ?_ ?_
    · exact ⟨a, y6, es, rfl, by rw [show N + 10 * (i : Int) + ((0 : Nat) : Int) = N + 10 * (i : Int) by omega]; exact Z2, by omega, hes⟩
    · rintro j σ H' _ ⟨_, _, _, rfl, Z, _⟩
      exact .inl (.inl (Z.sm.tr t htm).1)
    · rintro j x σ H3 hx ⟨b, y6, es, rfl, Z3, hb, hes3⟩
      rw [List.getElem?_map] at hx
      obtain ⟨s', hs, rfl⟩ := Option.map_eq_some_iff.mp hx
      have hj : j < t.2.length := (List.getElem?_eq_some_iff.mp hs).1
      refine ⟨.int b, rfl, .ref d, rfl, pick (n4 := 2) Z3 (by omega) (by decide) fun H'' r r0 r2 Z => ?_⟩
      refine ⟨b, r, rfl, rfl, ?_⟩
      obtain ⟨rs0, hl0, he0⟩ := Z.he.hl
      refine ⟨.ref lb, rfl, .inl ⟨rfl, _, .inl (.inl hl0)⟩, .int (b + r), rfl, s'.1, rfl, h1000 (show 2 ≤ 1000 by decide), fun r' nr => ?_⟩
      have s4 := same_upd (o := .tup [.int (b + r), s'.1]) nr
      have hr4 : upd H'' r' (.tup [.int (b + r), s'.1]) r' = some (.tup [.int (b + r), s'.1]) := upd_same
      have Z4 := Z.same s4 hmd hld ⟨hsd, hsc⟩
      revert s4 hr4 Z4
      generalize upd H'' r' (.tup [.int (b + r), s'.1]) = H4
      intro s4 hr4 Z4
      have hsv := (Z4.sm.tr t htm).2.2 s' (List.mem_of_getElem? hs)
      obtain ⟨rs, hl5, hl6, h5⟩ := Z4.he.line (e := (b + r, s'.1, s'.2)) hml ⟨hr4, hsv⟩
      refine ⟨lb, _, .ref r', rfl, rfl, hl5, small1000 (by rw [List.length_map, hl6]; omega), ?_⟩
      have nu5 := (Z4.nu.more (b := b + r) (by omega)).line s'.1 s'.2
      have D5 := Z4.dk.upd (o := .lst (rs.map V.ref ++ [.ref r'])) hld.1 hld.2
      have S5 := Z4.sm.upd (zs := rs.map V.ref ++ [.ref r']) hl5 hsl
      refine ⟨.int (b + r), rfl, b + r, 1, rfl, rfl, b + r + 1, some s'.1, _, rfl, ⟨h5, nu5, ?_, S5⟩, by omega, ?_⟩
      · exact D5.mono (by omega)
      · rw [List.length_append, List.length_singleton]; omega
    · rintro σ H3 ⟨b, y6, es, rfl, Z3, hb, hes3⟩
      rw [List.length_map] at Z3 hb hes3
      refine ⟨.int b, rfl, .ref d, rfl, pick (n4 := 3) Z3 (by omega) (by decide) fun H'' r r0 r2 Z => ?_⟩
      refine ⟨b, r, rfl, rfl, ?_⟩
      refine ⟨fun σ' H' => ∃ a' : Int, σ' = [some (.ref d), some (.ref so), some (.ref mb), some (.ref lb), some (.int a'), some (.ref t.1), y6] ∧ Zu K d c so (N + 10 * (i : Int) + 9) T H mb lb ms es a' H' ∧ a' ≤ 9000 + 21 * ((i + 1 : Nat) : Int), ?_, ?_⟩
      · have Zm : ∀ {a' H'}, Zu K d c so (N + 10 * (i : Int) + 9) T H mb lb ms es a' H' → Zu K d c so (N + 10 * (i : Int) + 9) T H mb lb ms es a' H' := fun z => z
        refine ⟨.int (b + r), rfl, b + r, 5000, rfl, rfl, _, rfl, ?_⟩
        by_cases c1 : b + r < 5000
        · rw [decide_eq_true c1]
          refine iteT ⟨.ref d, rfl, d, c, _, 8, rfl, Z.dk, by omega, by decide, by decide, fun H4 j k4 D4 j0 j8 => ⟨rfl, _, rfl, ?_⟩⟩
          have Z4 := Z.draw k4 D4 hmd hld ⟨hsd, hsc⟩
          rw [dec_int]
          cases (j == 5) with
          | true => exact iteT ⟨.int (b + r), rfl, b + r, 4000, rfl, rfl, b + r + 4000, rfl, ⟨Z4.he, Z4.nu.more (by omega), Z4.dk.mono (by omega), Z4.sm⟩, by omega⟩
          | false => exact iteF ⟨b + r, rfl, ⟨Z4.he, Z4.nu.more (by omega), Z4.dk.mono (by omega), Z4.sm⟩, by omega⟩
        · rw [decide_eq_false c1]
          exact iteF ⟨b + r, rfl, ⟨Z.he, Z.nu.more (by omega), Z.dk.mono (by omega), Z.sm⟩, by omega⟩
      · rintro σ' H4 ⟨a', rfl, Z4, ha'⟩
        refine ⟨.ref mb, rfl, .inl ⟨rfl, _, .inl (.inl Z4.he.hm)⟩, .int a', rfl, mb, _, .int a', rfl, rfl, Z4.he.hm, small1000 (by rw [List.length_map]; omega), ?_⟩
        have hm5 := Z4.he.marks (ms' := ms ++ [a']) hml
        rw [List.map_append] at hm5
        refine ⟨a', some (.ref t.1), y6, ms ++ [a'], es, rfl, ⟨hm5, Z4.nu.mark, (Z4.dk.upd hmd.1 hmd.2).mono (by omega), Z4.sm.upd Z4.he.hm hsm⟩, ha', by rw [List.length_append, hms]; rfl, by omega⟩
  · rintro σ H2 ⟨a, y5, y6, ms, es, rfl, Z2, ha, hms, hes⟩
    rw [List.length_map] at Z2 ha hms hes
    refine ⟨fun σ' H' => ∃ ms' : List Int, σ' = [some (.ref d), some (.ref so), some (.ref mb), some (.ref lb), some (.int a), y5, y6] ∧ He K d c H mb lb ms' es H' ∧ Deck H' d c (N + 99) ∧ OkL ms' es, ?_, ?_⟩
    · refine ⟨.ref mb, rfl, mb, _, rfl, .inl (.inl (.inl Z2.he.hm)), _, 1, rfl, rfl, _, rfl, ?_⟩
      rw [List.length_map, hms]
      by_cases c1 : (1 : Int) < ((T.length + 1 : Nat) : Int)
      · rw [decide_eq_true c1]
        refine iteT ⟨.ref d, rfl, d, c, _, 8, rfl, Z2.dk, by omega, by decide, by decide, fun H4 j k4 D4 j0 j8 => ⟨rfl, _, rfl, ?_⟩⟩
        have Z4 := Z2.draw k4 D4 hmd hld ⟨hsd, hsc⟩
        rw [dec_int]
        cases (j == 5) with
        | true =>
          refine iteT ⟨.ref mb, rfl, 1, rfl, mb, _, -1, T.length, rfl, rfl, Z4.he.hm, ?_, ?_⟩
          · rw [List.length_map, hms]
            unfold ixN
            rw [if_neg (by decide), if_pos (by omega)]
            congr 1
            omega
          · have e1 : (ms.map V.int).set T.length (.int 10000) = (ms.set T.length 10000).map V.int := (List.map_set).symm
            rw [e1]
            have hl' := Z4.nu.last (by omega) (by omega) (by omega) (by omega)
            rw [hms, Nat.add_sub_cancel] at hl'
            exact ⟨_, rfl, Z4.he.marks hml, (Z4.dk.upd hmd.1 hmd.2).mono (by omega), hl'⟩
        | false => exact iteF ⟨ms, rfl, Z4.he, Z4.dk.mono (by omega), Z4.nu.ok (by omega) (by omega) (by omega)⟩
      · rw [decide_eq_false c1]
        exact iteF ⟨ms, rfl, Z2.he, Z2.dk.mono (by omega), Z2.nu.ok (by omega) (by omega) (by omega)⟩
    · rintro σ' H3 ⟨ms', rfl, h3, D3, ok⟩
      obtain ⟨rs, hl0, he0⟩ := h3.hl
      refine ⟨.ref mb, rfl, mb, _, rfl, .inl ⟨.inl (.inl h3.hm), fun mp nmp => ?_⟩⟩
      have s3 := same_upd (o := .tup (ms'.map V.int)) nmp
      refine ⟨.ref lb, rfl, lb, _, rfl, .inl (.inl (s3 _ _ hl0)), fun ep o ho nep => ⟨h1000 (show 2 ≤ 1000 by decide), fun p np => ?_⟩⟩
      have s4 := same_upd (o := .frz o (.tup (rs.map V.ref))) nep
      have s5 := same_upd (o := .tup [.ref mp, .ref ep]) np
      have s345 := (s3.trans s4).trans s5
      refine q _ p ms' es (fun b ob n1 n2 e => s345 _ _ (h3.old b ob n1 n2 (ne_of_none e nmb) (ne_of_none e nlH) e)) ((D3.same s345).mono (by omega)) ⟨mp, ep, rs, upd_same, (s4.trans s5) _ _ upd_same, ⟨o, s5 _ _ upd_same, ho⟩, ens_keep (KeepT.of s345) he0⟩ ok
end
end L20

namespace L20
open PySem PySem.Spec PyProof.Rows L2 GR
abbrev aggs : List (Str × Nat) := [("count", 2), ("sum", 3), ("most", 4), ("first", 3)]
abbrev opws : List Str := ["+", "-", "*", "<", "=", "at"]
/-- one that contains none -/
inductive Leaf (zs : List Str) : PyData → Prop
  | int (i : Int) : -(10 ^ 18) ≤ i → i ≤ 10 ^ 18 → Leaf zs (.tuple [.str "int", .int i])
  | let_ (i : Int) : 0 ≤ i → i ≤ 10000 → Leaf zs (.tuple [.str "let", .int i])
  | key : Leaf zs (.tuple [.str "key"])
  | var (z : Str) : z ∈ zs → Leaf zs (.tuple [.str "var", .str z])
/-- an expression of depth n at most; its names are among zs -/
inductive Ex (zs : List Str) : Nat → PyData → Prop
  | leaf (n : Nat) (x : PyData) : Leaf zs x → Ex zs (n + 1) x
  | cell (n : Nat) (t v : Str) (x : PyData) : t ∈ zs → v ∈ zs → Ex zs n x → Ex zs (n + 1) (.tuple [.str "cell", .str t, x, .str v])
  | op (n : Nat) (o : Str) (x y : PyData) : o ∈ opws → Ex zs n x → Ex zs n y → Ex zs (n + 1) (.tuple [.str o, x, y])
  | iff (n : Nat) (x y z : PyData) : Ex zs n x → Ex zs n y → Ex zs n z → Ex zs (n + 1) (.tuple [.str "if", x, y, z])
  | agg (n : Nat) (o t : Str) (xs ys : List PyData) : (o, ys.length) ∈ aggs → t ∈ zs → xs.length ≤ 2 → (∀ x, x ∈ xs → Ex zs n x) → (∀ y, y ∈ ys → Ex zs n y) → Ex zs (n + 1) (.tuple (.str o :: .str t :: .tuple xs :: ys))
theorem Ex.mono {zs : List Str} : ∀ {n m : Nat} {x : PyData}, Ex zs n x → n ≤ m → Ex zs m x := by
  intro n m x h
  induction h generalizing m with
  | leaf n x h =>
    intro hm
    obtain ⟨k, rfl⟩ : ∃ k, m = k + 1 := ⟨m - 1, by omega⟩
    exact .leaf k x h
  | cell n t v x h1 h2 h3 ih =>
    intro hm
    obtain ⟨k, rfl⟩ : ∃ k, m = k + 1 := ⟨m - 1, by omega⟩
    exact .cell k t v x h1 h2 (ih (by omega))
  | op n o x y h1 h2 h3 ih1 ih2 =>
    intro hm
    obtain ⟨k, rfl⟩ : ∃ k, m = k + 1 := ⟨m - 1, by omega⟩
    exact .op k o x y h1 (ih1 (by omega)) (ih2 (by omega))
  | iff n x y z h1 h2 h3 ih1 ih2 ih3 =>
    intro hm
    obtain ⟨k, rfl⟩ : ∃ k, m = k + 1 := ⟨m - 1, by omega⟩
    exact .iff k x y z (ih1 (by omega)) (ih2 (by omega)) (ih3 (by omega))
  | agg n o t xs ys h1 h2 h3 h4 h5 ih1 ih2 =>
    intro hm
    obtain ⟨k, rfl⟩ : ∃ k, m = k + 1 := ⟨m - 1, by omega⟩
    exact .agg k o t xs ys h1 h2 h3 (fun x hx => ih1 x hx (by omega)) (fun y hy => ih2 y hy (by omega))
theorem Ex.flat {zs : List Str} : ∀ {n : Nat} {x : PyData}, Ex zs n x → flatD x = true := by
  intro n x h
  induction h with
  | leaf n x h => cases h <;> simp only [flatD, flatDs, Bool.and_self]
  | cell n t v x h1 h2 h3 ih => simp only [flatD, flatDs, ih, Bool.and_self]
  | op n o x y h1 h2 h3 ih1 ih2 => simp only [flatD, flatDs, ih1, ih2, Bool.and_self]
  | iff n x y z h1 h2 h3 ih1 ih2 ih3 => simp only [flatD, flatDs, ih1, ih2, ih3, Bool.and_self]
  | agg n o t xs ys h1 h2 h3 h4 h5 ih1 ih2 => simp only [flatD, flatDs, flatDs_of ih1, flatDs_of ih2, Bool.and_self]
end L20

namespace L20
open PySem PySem.Spec PyProof.Rows L2 GR
/-- what stands behind each word -/
def table : List (Str × List Str) := [("int", ["value"]), ("var", ["name"]), ("key", []), ("let", ["position"]), ("cell", ["name", "free", "name"]), ("+", ["free", "free"]), ("-", ["free", "free"]), ("*", ["free", "free"]), ("<", ["free", "free"]), ("=", ["free", "free"]),
  ("if", ["free", "free", "free"]), ("at", ["free", "bound"]), ("count", ["name", "extra", "bound", "bound"]), ("sum", ["name", "extra", "bound", "bound", "bound"]), ("most", ["name", "extra", "bound", "bound", "bound", "free"]), ("first", ["name", "extra", "bound", "bound", "free"])]
def items : PyData → List PyData
  | .tuple xs => xs
  | _ => []
def pick (wanted : List Str) : List Str → List PyData → List PyData
  | f :: fs, d :: ds => (if f = "extra" then items d else if f ∈ wanted then [d] else []) ++ pick wanted fs ds
  | _, _ => []
/-- what stands behind the word fits its kinds, as far as contained_of asks -/
inductive Fits : List Str → List PyData → Prop
  | nil : Fits [] []
  | cons {f : Str} {d : PyData} {fs : List Str} {ds : List PyData} : (f = "extra" → ∃ xs, d = .tuple xs) → Fits fs ds → Fits (f :: fs) (d :: ds)
/-- the form of an expression -/
def Form (x : PyData) (w : Str) (fs : List Str) (rest : List PyData) : Prop := x = .tuple (.str w :: rest) ∧ (w, fs) ∈ table ∧ Fits fs rest
theorem fit1 {f : Str} {d : PyData} {fs : List Str} {ds : List PyData} (h : f ≠ "extra") (t : Fits fs ds) : Fits (f :: fs) (d :: ds) := .cons (fun e => absurd e h) t
theorem Ex.form {zs : List Str} {n : Nat} {x : PyData} (h : Ex zs n x) : ∃ w fs rest, Form x w fs rest := by
  cases h with
  | leaf n x h =>
    cases h with
    | int i _ _ => exact ⟨"int", ["value"], _, rfl, by decide, fit1 (by decide) .nil⟩
    | let_ i _ _ => exact ⟨"let", ["position"], _, rfl, by decide, fit1 (by decide) .nil⟩
    | key => exact ⟨"key", [], _, rfl, by decide, .nil⟩
    | var z _ => exact ⟨"var", ["name"], _, rfl, by decide, fit1 (by decide) .nil⟩
  | cell n t v x h1 h2 h3 => exact ⟨"cell", ["name", "free", "name"], _, rfl, by decide, fit1 (by decide) (fit1 (by decide) (fit1 (by decide) .nil))⟩
  | op n o x y h1 h2 h3 =>
    simp only [opws, List.mem_cons, List.not_mem_nil, or_false] at h1
    rcases h1 with rfl | rfl | rfl | rfl | rfl | rfl
    · exact ⟨_, ["free", "free"], _, rfl, by decide, fit1 (by decide) (fit1 (by decide) .nil)⟩
    · exact ⟨_, ["free", "free"], _, rfl, by decide, fit1 (by decide) (fit1 (by decide) .nil)⟩
    · exact ⟨_, ["free", "free"], _, rfl, by decide, fit1 (by decide) (fit1 (by decide) .nil)⟩
    · exact ⟨_, ["free", "free"], _, rfl, by decide, fit1 (by decide) (fit1 (by decide) .nil)⟩
    · exact ⟨_, ["free", "free"], _, rfl, by decide, fit1 (by decide) (fit1 (by decide) .nil)⟩
    · exact ⟨_, ["free", "bound"], _, rfl, by decide, fit1 (by decide) (fit1 (by decide) .nil)⟩
  | iff n x y z h1 h2 h3 => exact ⟨"if", ["free", "free", "free"], _, rfl, by decide, fit1 (by decide) (fit1 (by decide) (fit1 (by decide) .nil))⟩
  | agg n o t xs ys h1 h2 h3 h4 h5 =>
    have tl : ∀ d : PyData, (("extra" : Str) = "extra" → ∃ us, d = .tuple us) ∨ True := fun _ => .inr trivial
    simp only [aggs, List.mem_cons, List.not_mem_nil, or_false, Prod.mk.injEq] at h1
    rcases h1 with ⟨rfl, h⟩ | ⟨rfl, h⟩ | ⟨rfl, h⟩ | ⟨rfl, h⟩
    · match ys, h with
      | [_, _], _ => exact ⟨_, ["name", "extra", "bound", "bound"], _, rfl, by decide, fit1 (by decide) (.cons (fun _ => ⟨xs, rfl⟩) (fit1 (by decide) (fit1 (by decide) .nil)))⟩
    · match ys, h with
      | [_, _, _], _ => exact ⟨_, ["name", "extra", "bound", "bound", "bound"], _, rfl, by decide, fit1 (by decide) (.cons (fun _ => ⟨xs, rfl⟩) (fit1 (by decide) (fit1 (by decide) (fit1 (by decide) .nil))))⟩
    · match ys, h with
      | [_, _, _, _], _ => exact ⟨_, ["name", "extra", "bound", "bound", "bound", "free"], _, rfl, by decide, fit1 (by decide) (.cons (fun _ => ⟨xs, rfl⟩) (fit1 (by decide) (fit1 (by decide) (fit1 (by decide) (fit1 (by decide) .nil)))))⟩
    · match ys, h with
      | [_, _, _], _ => exact ⟨_, ["name", "extra", "bound", "bound", "free"], _, rfl, by decide, fit1 (by decide) (.cons (fun _ => ⟨xs, rfl⟩) (fit1 (by decide) (fit1 (by decide) (fit1 (by decide) .nil))))⟩
/-- the written table at fA -/
def Flds (K : PySem.W.Frag) (w : World) (fA : Addr) : Prop := ∀ wd fs, (wd, fs) ∈ table → ∃ p, KDct K w fA wd (.ref p) ∧ ∀ H, SqT K H p (fs.map V.str)
end L20
namespace L20
open PySem PySem.Spec PyProof.Rows L2 GR
/-- what one field gives -/
def pick1 (wanted : List Str) (f : Str) (d : PyData) : List PyData := if f = "extra" then items d else if f ∈ wanted then [d] else []
theorem pick_take (W : List Str) : ∀ {fs : List Str} {ds : List PyData} (i : Nat) {f : Str} {d : PyData}, fs[i]? = some f → ds[i]? = some d → pick W (fs.take (i + 1)) (ds.take (i + 1)) = pick W (fs.take i) (ds.take i) ++ pick1 W f d
  | f0 :: fs, d0 :: ds, 0, f, d, hf, hd => by
    cases hf
    cases hd
    simp only [List.take_succ_cons, List.take_zero, pick, pick1, List.append_nil, List.nil_append]
  | f0 :: fs, d0 :: ds, i + 1, f, d, hf, hd => by
    rw [List.getElem?_cons_succ] at hf hd
    have := pick_take W i hf hd
    simp only [List.take_succ_cons, pick]
    rw [this, List.append_assoc]
  | [], _, _, _, _, hf, _ => by simp at hf
  | _ :: _, [], _, _, _, _, hd => by simp at hd
theorem pick_len (W : List Str) : ∀ {fs : List Str} {ds : List PyData} (i : Nat), (pick W (fs.take i) (ds.take i)).length ≤ (pick W fs ds).length
  | f0 :: fs, d0 :: ds, 0 => by simp only [List.take_zero, pick]; exact Nat.zero_le _
  | f0 :: fs, d0 :: ds, i + 1 => by
    have := pick_len W (fs := fs) (ds := ds) i
    simp only [List.take_succ_cons, pick, List.length_append]
    omega
  | [], ds, i => by simp only [List.take_nil, pick]; exact Nat.zero_le _
  | f0 :: fs, [], i => by
    simp only [List.take_nil]
    cases fs.take i <;> cases i <;> simp [pick]
theorem flatDs_at : ∀ {ds : List PyData} {i : Nat} {d : PyData}, flatDs ds = true → ds[i]? = some d → flatD d = true
  | d0 :: ds, 0, d, h, e => by
    cases e
    rw [flatDs, Bool.and_eq_true] at h
    exact h.1
  | d0 :: ds, i + 1, d, h, e => by
    rw [flatDs, Bool.and_eq_true] at h
    rw [List.getElem?_cons_succ] at e
    exact flatDs_at h.2 e
  | [], _, _, _, e => by simp at e
theorem flat_pick1 {W : List Str} {f : Str} {d : PyData} (h : flatD d = true) : flatDs (pick1 W f d) = true := by
  unfold pick1
  split
  · cases d <;> simp only [items, flatDs]
    rw [flatD] at h
    exact h
  · split
    · rw [flatDs, h, flatDs]
      rfl
    · rw [flatDs]
theorem flat_pick {W : List Str} : ∀ {fs : List Str} {ds : List PyData}, flatDs ds = true → flatDs (pick W fs ds) = true
  | f :: fs, d :: ds, h => by
    rw [flatDs, Bool.and_eq_true] at h
    exact flatDs_append (flat_pick1 (W := W) (f := f) h.1) (flat_pick h.2)
  | [], _, _ => by simp only [pick, flatDs]
  | _ :: _, [], _ => by simp only [pick, flatDs]
theorem flatDs_take {ds : List PyData} (i : Nat) (h : flatDs ds = true) : flatDs (ds.take i) = true := by
  induction ds generalizing i with
  | nil => simp only [List.take_nil, flatDs]
  | cons d ds ih =>
    rw [flatDs, Bool.and_eq_true] at h
    cases i with
    | zero => simp only [List.take_zero, flatDs]
    | succ i =>
      rw [List.take_succ_cons, flatDs, h.1, ih i h.2]
      rfl
theorem Fits.len {fs : List Str} {ds : List PyData} (h : Fits fs ds) : fs.length = ds.length := by
  induction h with
  | nil => rfl
  | cons _ _ ih => rw [List.length_cons, List.length_cons, ih]
theorem Fits.at' {fs : List Str} {ds : List PyData} (h : Fits fs ds) : ∀ {i : Nat} {d : PyData}, fs[i]? = some ("extra" : Str) → ds[i]? = some d → ∃ xs, d = .tuple xs := by
  induction h with
  | nil =>
    intro i d e
    simp at e
  | cons h1 h2 ih =>
    intro i d e1 e2
    cases i with
    | zero =>
      simp only [List.getElem?_cons_zero, Option.some.injEq] at e1 e2
      obtain ⟨xs, rfl⟩ := h1 e1
      exact ⟨xs, e2.symm⟩
    | succ i =>
      rw [List.getElem?_cons_succ] at e1 e2
      exact ih e1 e2
end L20

namespace L20
open PySem PySem.Spec PyProof.Rows L2 GR WX RZ
section
variable {P : Program} {w : World} {K : PySem.W.Frag} {mg : Str → Option Value} {base : Heap}
abbrev s_contained_of : Stmt := topS 7
theorem sc_contained_of : FnScope ["expression", "wanted", "found", "kind", "part"] ["expression", "wanted"] (defScope s_contained_of) := ⟨rfl, rfl, rfl, by decide +kernel, rfl, by decide +kernel, by decide +kernel⟩
def sp_contained_of (K : PySem.W.Frag) : Sp := fun vs H Q _ => ∃ (a wA : Addr) (wd : Str) (fs wanted : List Str) (rest : List PyData), vs = [.ref a, .ref wA] ∧ Dp K H (.ref a) (.tuple (.str wd :: rest)) ∧ (wd, fs) ∈ table ∧ Fits fs rest ∧ flatDs rest = true ∧ (pick wanted fs rest).length ≤ 1000 ∧ SqT K H wA (wanted.map V.str) ∧
  ∀ H' p us, Same H H' → H p = none → H' p = some (.lst us) → DpAll K H' us (pick wanted fs rest) → Q (.ref p) H'
theorem wanted_in (f : Str) (W : List Str) : inV (.str f) (W.map V.str) = decide (f ∈ W) := by
  unfold inV
  rw [List.any_map, Bool.eq_iff_iff, List.any_eq_true, decide_eq_true_eq]
  constructor
  · rintro ⟨z, hz, e⟩
    have : eqV (.str z) (.str f) = true := e
    have e2 : z = f := by
      simpa [eqV] using this
    exact e2 ▸ hz
  · intro h
    exact ⟨f, h, by show eqV (.str f) (.str f) = true; simp [eqV]⟩
theorem flat_strs (W : List Str) : (W.map V.str).all flatV = true := by
  rw [List.all_map, List.all_eq_true]
  intro z _
  rfl
theorem ok_contained_of {f fA : Addr} {fd : FuncData} {k : Nat} (F : Fun K "contained_of" "contained_of" s_contained_of f fd) (mFIELDS : mg "FIELDS" = some (.ref fA)) (T : Flds K w fA) (mzip : mg "zip" = none) :
    FnOk P w K mg base CX0 (k + 1) f fd ["expression", "wanted"] (sp_contained_of K) := by
  have nd := sc_contained_of.nd
  refine F.ok sc_contained_of (fun vs H Q E h => ?_) (fun cdv A outer s H vs Q E hr h => ?_)
  · obtain ⟨a, wA, wd, fs, wanted, rest, rfl, _⟩ := h
    rfl
  obtain ⟨a, wA, wd, fs, wanted, rest, rfl, hd, ht, hfit, hflat, hlen, hW, q⟩ := h
  refine ⟨_, (pss_cons (ps_set (i := 2) nd rfl (.inl rfl) (pe_lst pa_nil))
      (pss_cons (ps_for PassesOwn.never rfl (pi_zipA (by rfl) mzip (pa_cons (pe_ix ix_kdict (pe_glob rfl mFIELDS (v := .ref fA) rfl) (pe_ix ix_tup (pv 0) pe_int (fun _ _ => rfl)) (fun _ _ => rfl)) (pa_cons (pe_slice L2.sl_tup (pv 0) (po_some pe_int) po_none) pa_nil))) (pg_tup rfl (pgs_cons (pg_name (i := 3) nd rfl (Or.inl rfl)) (pgs_cons (pg_name (i := 4) nd rfl (Or.inl rfl)) pgs_nil)))
      (pss_one (ps_if (pt_cmpR op_eq (pv 3) pe_str (nomark _))
        (pss_one (ps_expr (pe_bm PySem.F.plainAttrs_list PySem.F.slot_list_extend PySem.F.type_list_extend mt_extendT (pv 2) (pa_cons (pv 4) pa_nil))))
        (pss_one (ps_if (pt_cmpR op_in_seq (pv 3) (pv 1) (by rfl))
          (pss_one (ps_expr (pe_bm PySem.F.plainAttrs_list PySem.F.slot_list_append PySem.F.type_list_append mt_append (pv 2) (pa_cons (pv 4) pa_nil))))
          pss_nil)))))
      (pss_one (ps_ret (pv 2))))), ?_⟩
  cases hd with
  | tup hS hA =>
  cases hA with
  | cons hw hA =>
  cases hw
  rename_i vs0
  obtain ⟨fp, hK, hF⟩ := T wd fs ht
  have hl0 := dpAll_len hA
  refine ⟨Nat.zero_le _, fun fo nfo => ?_⟩
  have sf := same_upd (o := .lst []) nfo
  refine ⟨.ref a, rfl, a, _, 0, .str wd, rfl, rfl, (KeepT.of sf).seqt hS, at0, fA, wd, .ref fp, rfl, rfl, hK, .ref a, rfl, 1, rfl, a, _, rfl, (KeepT.of sf).seqt hS, ?_, fun c nc => ?_⟩
  · rw [List.length_cons]
    rintro ⟨e, _⟩
    have : HT.sIx (vs0.length + 1) 0 (some 1) = min 1 (vs0.length + 1) := HT.sIx_nat _ _ 1
    rw [this] at e
    omega
  have hcut : cutV (.str wd :: vs0) (some 1) none = vs0 := by
    unfold cutV
    rw [HT.sIx_none, show HT.sIx (V.str wd :: vs0).length 0 (some 1) = min 1 (V.str wd :: vs0).length from HT.sIx_nat _ _ 1, List.length_cons, show min 1 (vs0.length + 1) = 1 by omega, List.drop_succ_cons, List.drop_zero, show vs0.length + 1 - 1 = vs0.length by omega, List.take_length]
  rw [hcut]
  have sc := same_upd (o := .tup vs0) nc
  have hc1 : upd (upd H fo (.lst [])) c (.tup vs0) c = some (.tup vs0) := upd_same
  have hf1 := sc _ _ (show upd H fo (.lst []) fo = _ from upd_same)
  have s2 := sf.trans sc
  revert hc1 hf1 s2
  generalize upd (upd H fo (.lst [])) c (.tup vs0) = H1
  intro hc1 hf1 s2
  have hl : (fs.map V.str).length = vs0.length := by rw [List.length_map, hfit.len, hl0]
  refine ⟨fp, c, fs.map V.str, vs0, rfl, .inr ⟨hF H1, .inl (.inl hc1), ?_⟩⟩
  refine for_zipT hl (fun i σ H' => ∃ (y3 y4 : Option V) (us : List V), σ = [some (.ref a), some (.ref wA), some (.ref fo), y3, y4] ∧ H' fo = some (.lst us) ∧ DpAll K H' us (pick wanted (fs.take i) (rest.take i)) ∧ (∀ b o, b ≠ fo → H1 b = some o → H' b = some o)) ?_ ?_ ?_ ?_
  · refine ⟨none, none, [], rfl, hf1, ?_, fun b o _ e => e⟩
    simp only [List.take_zero, pick]
    exact .nil
  · rintro i σ H' ⟨y3, y4, us, rfl, hu, hdp, kk⟩
    exact ⟨hF H', .inl (.inl (kk _ _ (ne_of hc1 hf1 (fun z => by cases z)) hc1))⟩
  · rintro i x y t σ H' hx hy ⟨y3, y4, us, rfl, hu, hdp, kk⟩ nt
    rw [List.getElem?_map] at hx
    obtain ⟨fi, hfi, rfl⟩ : ∃ fi, fs[i]? = some fi ∧ x = .str fi := by
      cases e : fs[i]? with
      | none =>
        rw [e] at hx
        cases hx
      | some fi =>
        rw [e] at hx
        cases hx
        exact ⟨fi, rfl, rfl⟩
    obtain ⟨di, hdi, hyd⟩ := dpAll_at hA hy
    have st := same_upd (o := .tup [.str fi, y]) nt
    have kt : KeepT H (upd H' t (.tup [.str fi, y])) := ⟨fun b xs e => st _ _ (kk _ _ (ne_of_none e nfo) (s2 _ _ e)), fun b o xs e => st _ _ (kk _ _ (ne_of_none e nfo) (s2 _ _ e))⟩
    have fdi := flatDs_at hflat hdi
    have hyd2 := dp_keep kt _ _ fdi hyd
    have hu2 := st _ _ hu
    have ntf : t ≠ fo := (ne_of_none hu nt).symm
    have hp : pick wanted (fs.take (i + 1)) (rest.take (i + 1)) = pick wanted (fs.take i) (rest.take i) ++ pick1 wanted fi di := pick_take wanted i hfi hdi
    have hl2 := pick_len wanted (fs := fs) (ds := rest) (i + 1)
    have hlu := dpAll_len hdp
    have fpk : flatDs (pick wanted (fs.take i) (rest.take i)) = true := flat_pick (flatDs_take i hflat)
    rw [hp, List.length_append] at hl2
    -- what is put behind us
    have turn : ∀ zs' : List V, DpAll K (upd H' t (.tup [.str fi, y])) zs' (pick1 wanted fi di) → ∃ (z3 z4 : Option V) (us' : List V), [some (.ref a), some (.ref wA), some (.ref fo), some (.str fi), some y] = [some (.ref a), some (.ref wA), some (.ref fo), z3, z4] ∧
        upd (upd H' t (.tup [.str fi, y])) fo (.lst (us ++ zs')) fo = some (.lst us') ∧ DpAll K (upd (upd H' t (.tup [.str fi, y])) fo (.lst (us ++ zs'))) us' (pick wanted (fs.take (i + 1)) (rest.take (i + 1))) ∧ (∀ b o, b ≠ fo → H1 b = some o → upd (upd H' t (.tup [.str fi, y])) fo (.lst (us ++ zs')) b = some o) := by
      intro zs' hz
      have k2 : KeepT (upd H' t (.tup [.str fi, y])) (upd (upd H' t (.tup [.str fi, y])) fo (.lst (us ++ zs'))) := KeepT.lst hu2
      refine ⟨_, _, us ++ zs', rfl, upd_same, ?_, fun b o hb e => ?_⟩
      · rw [hp]
        exact dpAll_append (dp_keepAll ((KeepT.of st).trans k2) _ _ fpk hdp) (dp_keepAll k2 _ _ (flat_pick1 fdi) hz)
      · rw [upd_ne hb]
        exact st _ _ (kk b o hb e)
    refine ⟨t, [.str fi, y], rfl, .inl (.inl upd_same), rfl, _, _, rfl, _, _, rfl, rfl, ?_⟩
    refine ⟨.str fi, rfl, rfl, _, rfl, ite2 (fun e1 => ?_) (fun e1 => ?_)⟩
    · have e1 : fi = "extra" := by simpa using e1
      subst e1
      obtain ⟨xs, rfl⟩ := hfit.at' hfi hdi
      cases hyd2 with
      | tup hys hyA =>
      rename_i ya zs'
      have hz := dpAll_len hyA
      refine ⟨.ref fo, rfl, .inl ⟨rfl, _, .inl (.inl hu2)⟩, .ref ya, rfl, fo, ya, us, zs', rfl, rfl, hu2, hys, ?_, turn zs' ?_⟩
      · rw [hlu, hz]
        unfold pick1 at hl2
        rw [if_pos rfl, items] at hl2
        exact small_le (by omega)
      · unfold pick1
        rw [if_pos rfl]
        exact hyA
    · have e1 : fi ≠ "extra" := fun z => e1 (by simpa using z)
      refine ⟨.str fi, rfl, .ref wA, rfl, wA, wanted.map V.str, rfl, .inr ((KeepT.trans ⟨fun b xs e => kk _ _ (ne_of_none e nfo) (s2 _ _ e), fun b o xs e => kk _ _ (ne_of_none e nfo) (s2 _ _ e)⟩ (KeepT.of st)).seqt hW), rfl, flat_strs wanted, _, rfl, ?_⟩
      rw [wanted_in]
      refine ite2 (fun e2 => ?_) (fun e2 => ?_)
      · have e2 : fi ∈ wanted := by simpa using e2
        refine ⟨.ref fo, rfl, .inl ⟨rfl, _, .inl (.inl hu2)⟩, y, rfl, fo, _, _, rfl, rfl, hu2, ?_, turn [y] ?_⟩
        · rw [hlu]
          exact small1000 (by omega)
        · unfold pick1
          rw [if_neg e1, if_pos e2]
          exact .cons hyd2 .nil
      · have e2 : fi ∉ wanted := fun z => e2 (by simpa using z)
        refine ⟨_, _, us, rfl, hu2, ?_, fun b o hb e => st _ _ (kk b o hb e)⟩
        rw [hp]
        unfold pick1
        rw [if_neg e1, if_neg e2, List.append_nil]
        exact dp_keepAll (KeepT.of st) _ _ fpk hdp
  · rintro σ H' ⟨y3, y4, us, rfl, hu, hdp, kk⟩
    have e1 : fs.take (fs.map V.str).length = fs := by rw [List.length_map, List.take_length]
    have e2 : rest.take (fs.map V.str).length = rest := by rw [List.length_map, hfit.len, List.take_length]
    rw [e1, e2] at hdp
    refine ⟨.ref fo, rfl, q H' fo us (fun b o e => kk _ _ (ne_of_none e nfo) (s2 _ _ e)) nfo hu hdp⟩
end
end L20

namespace L20
open PySem PySem.Spec PyProof.Rows L2 GR
abbrev W2 : List Str := ["free", "bound"]
def fieldsOf (w : Str) : List Str := ((table.find? fun p => decide (p.1 = w)).map (·.2)).getD []
/-- what an expression contains directly -/
def kids : PyData → List PyData
  | .tuple (.str w :: rest) => pick W2 (fieldsOf w) rest
  | _ => []
theorem fieldsOf_table : ∀ p, p ∈ table → fieldsOf p.1 = p.2 := by decide
theorem Form.kids {x : PyData} {w : Str} {fs : List Str} {rest : List PyData} (h : Form x w fs rest) : kids x = pick W2 fs rest := by
  obtain ⟨rfl, ht, _⟩ := h
  show pick W2 (fieldsOf w) rest = _
  rw [show fieldsOf w = fs from fieldsOf_table (w, fs) ht]
theorem kids_of {w : Str} {fs : List Str} {rest : List PyData} (ht : (w, fs) ∈ table) : kids (.tuple (.str w :: rest)) = pick W2 fs rest := by
  show pick W2 (fieldsOf w) rest = _
  rw [show fieldsOf w = fs from fieldsOf_table (w, fs) ht]
theorem p_no {f : Str} {d : PyData} {fs : List Str} {ds : List PyData} (h : f ≠ "extra") (h2 : f ∉ W2) : pick W2 (f :: fs) (d :: ds) = pick W2 fs ds := by
  simp only [pick, if_neg h, if_neg h2, List.nil_append]
theorem p_yes {f : Str} {d : PyData} {fs : List Str} {ds : List PyData} (h : f ≠ "extra") (h2 : f ∈ W2) : pick W2 (f :: fs) (d :: ds) = d :: pick W2 fs ds := by
  simp only [pick, if_neg h, if_pos h2, List.cons_append, List.nil_append]
theorem p_ex {xs : List PyData} {fs : List Str} {ds : List PyData} : pick W2 ("extra" :: fs) (.tuple xs :: ds) = xs ++ pick W2 fs ds := by
  simp only [pick, if_pos, items]
theorem p_nil : pick W2 [] [] = [] := rfl
/-- the parts contained, by the form -/
theorem kids_leaf {zs : List Str} {x : PyData} (h : Leaf zs x) : kids x = [] := by
  cases h with
  | int i _ _ => rw [kids_of (fs := ["value"]) (by decide), p_no (by decide) (by decide), p_nil]
  | let_ i _ _ => rw [kids_of (fs := ["position"]) (by decide), p_no (by decide) (by decide), p_nil]
  | key => rw [kids_of (fs := []) (by decide), p_nil]
  | var z _ => rw [kids_of (fs := ["name"]) (by decide), p_no (by decide) (by decide), p_nil]
theorem kids_cell {t v : Str} {x : PyData} : kids (.tuple [.str "cell", .str t, x, .str v]) = [x] := by
  rw [kids_of (fs := ["name", "free", "name"]) (by decide), p_no (by decide) (by decide), p_yes (by decide) (by decide), p_no (by decide) (by decide), p_nil]
theorem kids_if {x y z : PyData} : kids (.tuple [.str "if", x, y, z]) = [x, y, z] := by
  rw [kids_of (fs := ["free", "free", "free"]) (by decide), p_yes (by decide) (by decide), p_yes (by decide) (by decide), p_yes (by decide) (by decide), p_nil]
theorem kids_op {o : Str} {x y : PyData} (h : o ∈ opws) : kids (.tuple [.str o, x, y]) = [x, y] := by
  simp only [opws, List.mem_cons, List.not_mem_nil, or_false] at h
  rcases h with rfl | rfl | rfl | rfl | rfl | rfl
  · rw [kids_of (fs := ["free", "free"]) (by decide), p_yes (by decide) (by decide), p_yes (by decide) (by decide), p_nil]
  · rw [kids_of (fs := ["free", "free"]) (by decide), p_yes (by decide) (by decide), p_yes (by decide) (by decide), p_nil]
  · rw [kids_of (fs := ["free", "free"]) (by decide), p_yes (by decide) (by decide), p_yes (by decide) (by decide), p_nil]
  · rw [kids_of (fs := ["free", "free"]) (by decide), p_yes (by decide) (by decide), p_yes (by decide) (by decide), p_nil]
  · rw [kids_of (fs := ["free", "free"]) (by decide), p_yes (by decide) (by decide), p_yes (by decide) (by decide), p_nil]
  · rw [kids_of (fs := ["free", "bound"]) (by decide), p_yes (by decide) (by decide), p_yes (by decide) (by decide), p_nil]
theorem kids_agg {o t : Str} {xs ys : List PyData} (h : (o, ys.length) ∈ aggs) : kids (.tuple (.str o :: .str t :: .tuple xs :: ys)) = xs ++ ys := by
  simp only [aggs, List.mem_cons, List.not_mem_nil, or_false, Prod.mk.injEq] at h
  rcases h with ⟨rfl, h⟩ | ⟨rfl, h⟩ | ⟨rfl, h⟩ | ⟨rfl, h⟩
  · match ys, h with
    | [_, _], _ => rw [kids_of (fs := ["name", "extra", "bound", "bound"]) (by decide), p_no (by decide) (by decide), p_ex, p_yes (by decide) (by decide), p_yes (by decide) (by decide), p_nil]
  · match ys, h with
    | [_, _, _], _ => rw [kids_of (fs := ["name", "extra", "bound", "bound", "bound"]) (by decide), p_no (by decide) (by decide), p_ex, p_yes (by decide) (by decide), p_yes (by decide) (by decide), p_yes (by decide) (by decide), p_nil]
  · match ys, h with
    | [_, _, _, _], _ => rw [kids_of (fs := ["name", "extra", "bound", "bound", "bound", "free"]) (by decide), p_no (by decide) (by decide), p_ex, p_yes (by decide) (by decide), p_yes (by decide) (by decide), p_yes (by decide) (by decide), p_yes (by decide) (by decide), p_nil]
  · match ys, h with
    | [_, _, _], _ => rw [kids_of (fs := ["name", "extra", "bound", "bound", "free"]) (by decide), p_no (by decide) (by decide), p_ex, p_yes (by decide) (by decide), p_yes (by decide) (by decide), p_yes (by decide) (by decide), p_nil]
theorem agg_len {o : Str} {n : Nat} (h : (o, n) ∈ aggs) : n ≤ 4 := by
  simp only [aggs, List.mem_cons, List.not_mem_nil, or_false, Prod.mk.injEq] at h
  omega
theorem Ex.kids {zs : List Str} {n : Nat} {x : PyData} (h : Ex zs (n + 1) x) : (∀ y, y ∈ kids x → Ex zs n y) ∧ (kids x).length ≤ 6 := by
  cases h with
  | leaf n x h =>
    rw [kids_leaf h]
    exact ⟨fun y hy => (nomatch hy), by decide⟩
  | cell n t v x h1 h2 h3 =>
    rw [kids_cell]
    refine ⟨fun y hy => ?_, (show 1 ≤ 6 by decide)⟩
    rw [List.mem_singleton.mp hy]
    exact h3
  | op n o x y h1 h2 h3 =>
    rw [kids_op h1]
    refine ⟨fun z hz => ?_, (show 2 ≤ 6 by decide)⟩
    simp only [List.mem_cons, List.not_mem_nil, or_false] at hz
    rcases hz with rfl | rfl
    · exact h2
    · exact h3
  | iff n x y z h1 h2 h3 =>
    rw [kids_if]
    refine ⟨fun u hu => ?_, (show 3 ≤ 6 by decide)⟩
    simp only [List.mem_cons, List.not_mem_nil, or_false] at hu
    rcases hu with rfl | rfl | rfl
    · exact h1
    · exact h2
    · exact h3
  | agg n o t xs ys h1 h2 h3 h4 h5 =>
    rw [kids_agg h1]
    have := agg_len h1
    refine ⟨fun u hu => ?_, by rw [List.length_append]; omega⟩
    rcases List.mem_append.mp hu with hu | hu
    · exact h4 u hu
    · exact h5 u hu
/-! ### levels -/
/-- the level below -/
def down (l : List PyData) : List PyData := l.flatMap kids
/-- n levels, from l on -/
def lvls : Nat → List PyData → List PyData
  | 0, _ => []
  | n + 1, l => l ++ lvls n (down l)
/-- all parts, each with its own behind it -/
def flatP : Nat → PyData → List PyData
  | 0, _ => []
  | n + 1, x => x :: (kids x).flatMap (flatP n)
def bnd : Nat → Nat
  | 0 => 0
  | n + 1 => 1 + 6 * bnd n
theorem sum_le {α : Type} (f : α → Nat) (b : Nat) : ∀ l : List α, (∀ x, x ∈ l → f x ≤ b) → (l.map f).sum ≤ l.length * b
  | [], _ => by simp
  | x :: l, h => by
    have h1 := h x List.mem_cons_self
    have h2 := sum_le f b l fun y hy => h y (List.mem_cons_of_mem _ hy)
    rw [List.map_cons, List.sum_cons, List.length_cons, Nat.succ_mul]
    omega
theorem flatP_len {zs : List Str} : ∀ {n : Nat} {x : PyData}, Ex zs n x → (flatP n x).length ≤ bnd n
  | 0, _, h => by cases h
  | n + 1, x, h => by
    obtain ⟨h1, h2⟩ := h.kids
    have h3 : ((kids x).flatMap (flatP n)).length ≤ 6 * bnd n := by
      rw [List.length_flatMap]
      have := sum_le (fun y => (flatP n y).length) (bnd n) (kids x) fun y hy => flatP_len (h1 y hy)
      have h4 : (kids x).length * bnd n ≤ 6 * bnd n := Nat.mul_le_mul_right _ h2
      omega
    simp only [flatP, List.length_cons, bnd]
    omega
theorem flatMap_cons_perm {α β : Type} (f : α → β) (g : α → List β) : ∀ l : List α, (l.map f ++ l.flatMap g).Perm (l.flatMap fun x => f x :: g x)
  | [] => .nil
  | x :: l => by
    have ih := flatMap_cons_perm f g l
    simp only [List.map_cons, List.flatMap_cons, List.cons_append]
    refine .cons _ ?_
    have : (l.map f ++ (g x ++ l.flatMap g)).Perm (g x ++ (l.map f ++ l.flatMap g)) := by
      rw [← List.append_assoc, ← List.append_assoc]
      exact List.perm_append_comm.append_right _
    exact this.trans (ih.append_left _)
/-- by levels, the same parts -/
theorem lvls_perm : ∀ (n : Nat) (l : List PyData), (lvls n l).Perm (l.flatMap (flatP n))
  | 0, l => by
    have : l.flatMap (flatP 0) = [] := by
      induction l with
      | nil => rfl
      | cons x l ih => rw [List.flatMap_cons, ih]; rfl
    rw [this]
    exact .nil
  | n + 1, l => by
    have ih := lvls_perm n (down l)
    have h1 : (down l).flatMap (flatP n) = l.flatMap fun x => (kids x).flatMap (flatP n) := by
      unfold down
      rw [List.flatMap_assoc]
    rw [h1] at ih
    have h2 := flatMap_cons_perm (fun x : PyData => x) (fun x => (kids x).flatMap (flatP n)) l
    rw [List.map_id'] at h2
    exact (ih.append_left l).trans h2
end L20

namespace L20
open PySem PySem.Spec PyProof.Rows L2 GR WX
/-- any walk over a list: what a turn does, told by body with what is to hold behind it -/
theorem walk_body {K : PySem.W.Frag} {a : Addr} {xs : List V} {body : V → Hp → (Hp → Prop) → Prop} {H0 : Hp} {Qd : Hp → Prop} (Pv : Nat → Hp → Prop) (h0 : Pv 0 H0) (hl : ∀ i H, i ≤ xs.length → Pv i H → SqL K H a xs)
    (hs : ∀ i x H, xs[i]? = some x → Pv i H → body x H (Pv (i + 1))) (hd : ∀ H, Pv xs.length H → Qd H) :
    ∃ W : Nat → Nat → Hp → Prop, (∃ m, W 0 m H0) ∧ ∀ i m H, W i m H →
      ((Itl K a).stop i H ∧ Qd H) ∨ ((Itl K a).go i H ∧ ∃ Nx : Hp → Prop, (∀ H', Nx H' → ∃ m', m' < m ∧ W (i + 1) m' H') ∧ ∀ x H', (Itl K a).yld i H x H' → body x H' Nx) := by
  have w := walk_list (K := K) (a := a) (xs := xs)
  refine ⟨fun i m H => m = xs.length - i ∧ i ≤ xs.length ∧ Pv i H, ⟨xs.length, rfl, Nat.zero_le _, h0⟩, ?_⟩
  rintro i m H ⟨rfl, hi, p⟩
  have q := hl i H hi p
  by_cases hlt : i < xs.length
  · refine .inr ⟨w.goes i H hlt q, Pv (i + 1), fun H' p' => ⟨xs.length - (i + 1), by omega, rfl, hlt, p'⟩, fun x H' y => ?_⟩
    obtain ⟨rfl, hx⟩ := w.yields i H x H' hlt q y
    exact hs i x _ hx p
  · obtain rfl : i = xs.length := by omega
    exact .inl ⟨w.stops H q, hd H p⟩
theorem Ex.kept {K : PySem.W.Frag} {H H' : Hp} {zs : List Str} {n : Nat} {x : PyData} {v : V} (s : KeepT H H') (h : Ex zs n x) (d : Dp K H v x) : Dp K H' v x := dp_keep s _ _ h.flat d
theorem flat_all {zs : List Str} {n : Nat} {xs : List PyData} (h : ∀ x, x ∈ xs → Ex zs n x) : flatDs xs = true := flatDs_of fun x hx => (h x hx).flat
theorem down_take {xs : List PyData} {i : Nat} {x : PyData} (h : xs[i]? = some x) : down (xs.take (i + 1)) = down (xs.take i) ++ kids x := by
  unfold down
  rw [List.take_add_one, h, List.flatMap_append]
  simp
theorem down_len {zs : List Str} {n : Nat} {xs : List PyData} (h : ∀ x, x ∈ xs → Ex zs (n + 1) x) : (down xs).length ≤ 6 * xs.length := by
  unfold down
  rw [List.length_flatMap]
  have := sum_le (fun y => (kids y).length) 6 xs fun y hy => ((h y hy).kids).2
  omega
theorem down_take_le (xs : List PyData) (i : Nat) : (down (xs.take i)).length ≤ (down xs).length := by
  have : down xs = down (xs.take i) ++ down (xs.drop i) := by
    unfold down
    rw [← List.flatMap_append, List.take_append_drop]
  rw [this, List.length_append]
  omega
theorem take_snoc {α : Type} {l : List α} {j : Nat} {x : α} (h : l[j]? = some x) : l.take (j + 1) = l.take j ++ [x] := by
  rw [List.take_add_one, h]
  rfl
theorem down_ex {zs : List Str} {n : Nat} {xs : List PyData} (h : ∀ x, x ∈ xs → Ex zs (n + 1) x) : ∀ y, y ∈ down xs → Ex zs n y := by
  intro y hy
  obtain ⟨x, hx, hy⟩ := List.mem_flatMap.mp hy
  exact ((h x hx).kids).1 y hy
section
variable {P : Program} {w : World} {K : PySem.W.Frag} {mg : Str → Option Value} {base : Heap}
abbrev s_contained : Stmt := topS 5
theorem sc_contained : FnScope ["expression"] ["expression"] (defScope s_contained) := ⟨rfl, rfl, rfl, by decide +kernel, rfl, by decide +kernel, by decide +kernel⟩
def sp_contained (K : PySem.W.Frag) : Sp := fun vs H Q _ => ∃ (v : V) (x : PyData) (zs : List Str) (n : Nat), vs = [v] ∧ Dp K H v x ∧ Ex zs (n + 1) x ∧ ∀ H' p us, Same H H' → H p = none → H' p = some (.lst us) → DpAll K H' us (kids x) → Q (.ref p) H'
theorem ok_contained {f fc : Addr} {fd fdc : FuncData} {k : Nat} (F : Fun K "contained" "contained" s_contained f fd) (Gc : FnOk P w K mg base CX0 k fc fdc ["expression", "wanted"] (sp_contained_of K)) (gc : mg "contained_of" = some (.ref fc)) (Kc : PySem.W.keepIn K (.ref fc) = true) (bc : Binds K fdc ["expression", "wanted"] []) {aP : Addr} (mALL : mg "ALL_PARTS" = some (.ref aP)) (TA : ∀ H, SqT K H aP (W2.map V.str)) :
    FnOk P w K mg base CX0 (k + 1) f fd ["expression"] (sp_contained K) := by
  have nd := sc_contained.nd
  refine F.ok sc_contained (fun vs H Q E h => ?_) (fun cdv A outer s H vs Q E hr h => ?_)
  · obtain ⟨v, x, zs, n, rfl, _⟩ := h
    rfl
  obtain ⟨v, x, zs, n, rfl, hd, he, q⟩ := h
  refine ⟨_, (pss_one (ps_ret (pe_call Gc hr (by rfl) gc Kc bc .nil pass0 (pa_cons (pv 0) (pa_cons (pe_glob rfl mALL (v := .ref aP) rfl) pa_nil))))), ?_⟩
  obtain ⟨wd, fs, rest, hf⟩ := he.form
  have hk := hf.kids
  have hkl := he.kids.2
  have hfl := he.flat
  obtain ⟨rfl, ht, hfit⟩ := hf
  cases hd with
  | tup hS hA =>
  rename_i a vs
  refine ⟨.ref a, rfl, a, aP, wd, fs, W2, rest, rfl, .tup hS hA, ht, hfit, ?_, ?_, TA H, fun H' p us s1 np hp hu => ?_⟩
  · rw [flatD, flatDs, Bool.and_eq_true] at hfl
    exact hfl.2
  · rw [← hk]
    omega
  · rw [← hk] at hu
    exact q H' p us s1 np hp hu
abbrev s_one_deeper : Stmt := topS 8
abbrev N_one : List Str := ["expressions", "expression", "part"]
theorem sc_one_deeper : FnScope N_one ["expressions"] (defScope s_one_deeper) := ⟨rfl, rfl, rfl, by decide +kernel, rfl, by decide +kernel, by decide +kernel⟩
def sp_one_deeper (K : PySem.W.Frag) : Sp := fun vs H Q _ => ∃ (a : Addr) (us : List V) (xs : List PyData) (zs : List Str) (n : Nat), vs = [.ref a] ∧ SqL K H a us ∧ DpAll K H us xs ∧ (∀ x, x ∈ xs → Ex zs (n + 1) x) ∧ xs.length ≤ 2100000 ∧
  ∀ H' p us', Same H H' → H p = none → H' p = some (.lst us') → DpAll K H' us' (down xs) → Q (.ref p) H'
theorem ok_one_deeper {f fc : Addr} {fd fdc : FuncData} {k : Nat} (F : Fun K "one_deeper" "one_deeper" s_one_deeper f fd) (Gc : FnOk P w K mg base CX0 k fc fdc ["expression"] (sp_contained K)) (gc : mg "contained" = some (.ref fc)) (Kc : PySem.W.keepIn K (.ref fc) = true) (bc : Binds K fdc ["expression"] []) :
    FnOk P w K mg base CX0 (k + 1) f fd ["expressions"] (sp_one_deeper K) := by
  have nd := sc_one_deeper.nd
  refine F.ok sc_one_deeper (fun vs H Q E h => ?_) (fun cdv A outer s H vs Q E hr h => ?_)
  · obtain ⟨a, us, xs, zs, n, rfl, _⟩ := h
    rfl
  obtain ⟨a, us, xs, zs, n, rfl, hS, hA, hE, hlen, q⟩ := h
  refine ⟨_, (pss_one (ps_ret (pe_lc2 (own := [("expression", 1), ("part", 2)]) (vs1 := [2]) (wi1 := iList K (tCall (sp_contained K) [] E0 (tCons (tVar 1) tNil))) rfl nd (pi_list (pv 0)) (blkOk_by (N := N_one) (sc := defScope s_one_deeper) (by decide +kernel)) (by decide)
      (fun _ _ _ _ _ => (pg_name (i := 1) nd rfl (Or.inl rfl))) (fun _ _ _ _ _ => pts_nil)
      (fun _ _ _ _ _ => pi_list (pe_call Gc hr (by rfl) gc Kc bc .nil pass0 (pa_cons (pv 1) pa_nil))) (fun _ _ _ _ _ => (pg_name (i := 2) nd rfl (Or.inl rfl))) (fun _ _ _ _ _ => pts_nil)
      (fun _ _ _ _ _ => (pv 2))))), ?_⟩
  refine ⟨.ref a, rfl, a, rfl, ⟨us, hS⟩, fun D nD => ?_⟩
  have hxl := dpAll_len hA
  have hdl := down_len hE
  have full : ∀ H' us', DpAll K H' us' (down xs) → us'.length < sizeLine := fun H' us' h => by
    rw [dpAll_len h, sizeLine_eq]
    omega
  refine walk_body (xs := us) (fun i H' => ∃ acc, H' D = some (.lst acc) ∧ DpAll K H' acc (down (xs.take i)) ∧ Same H H') ?_ ?_ ?_ ?_
  · refine ⟨[], upd_same, ?_, same_upd nD⟩
    rw [List.take_zero]
    exact .nil
  · rintro i H' _ ⟨acc, hD, hdp, kk⟩
    exact kk.seq hS
  · rintro i v H' hv ⟨acc, hD, hdp, kk⟩
    obtain ⟨x, hx, hvx⟩ := dpAll_at hA hv
    have ex := hE x (List.mem_of_getElem? hx)
    refine ⟨rfl, yes_then ⟨v, rfl, v, x, zs, n, rfl, ex.kept (KeepT.of kk) hvx, ex, fun H2 p us2 s2 np hp hu => ⟨p, rfl, ⟨us2, .inl (.inl hp)⟩, ?_⟩⟩⟩
    have hD2 := s2 _ _ hD
    have npD : D ≠ p := ne_of_none hD np
    have hul := dpAll_len hu
    have fd : flatDs (down (xs.take i)) = true := flat_all (n := n) (zs := zs) (down_ex fun y hy => hE y (List.mem_of_mem_take hy))
    have fk : flatDs (kids x) = true := flat_all ex.kids.1
    have hdn := down_take hx
    have hle := down_take_le xs (i + 1)
    rw [hdn, List.length_append] at hle
    refine walk_body (xs := us2) (fun j H3 => ∃ acc', H3 D = some (.lst acc') ∧ DpAll K H3 acc' (down (xs.take i) ++ (kids x).take j) ∧ (∀ b o, b ≠ D → H2 b = some o → H3 b = some o)) ?_ ?_ ?_ ?_
    · refine ⟨acc, hD2, ?_, fun b o _ e => e⟩
      rw [List.take_zero, List.append_nil]
      exact dp_keepAll (KeepT.of s2) _ _ fd hdp
    · rintro j H3 _ ⟨acc', hD3, hdp3, k3⟩
      exact .inl (.inl (k3 _ _ npD.symm hp))
    · rintro j y H3 hy ⟨acc', hD3, hdp3, k3⟩
      obtain ⟨dj, hdj, hyd⟩ := dpAll_at hu hy
      have kt3 : KeepT H2 H3 := ⟨fun b us e => k3 _ _ (ne_of e hD2 (fun z => by cases z)) e, fun b o us e => k3 _ _ (ne_of e hD2 (fun z => by cases z)) e⟩
      have fdj := flatDs_at fk hdj
      have k4 : KeepT H3 (upd H3 D (.lst (acc' ++ [y]))) := KeepT.lst hD3
      have la := dpAll_len hdp3
      rw [List.length_append, List.length_take] at la
      have hj : j < (kids x).length := (List.getElem?_eq_some_iff.mp hdj).1
      refine ⟨rfl, yes_then ⟨y, rfl, acc', hD3, ?_, acc' ++ [y], upd_same, ?_, fun b o hb e => ?_⟩⟩
      · rw [sizeLine_eq]
        omega
      · rw [take_snoc hdj, ← List.append_assoc]
        exact dpAll_append (dp_keepAll k4 _ _ (flatDs_append fd (flatDs_take j fk)) hdp3) (.cons (dp_keep (kt3.trans k4) _ _ fdj hyd) .nil)
      · rw [upd_ne hb]
        exact k3 b o hb e
    · rintro H3 ⟨acc', hD3, hdp3, k3⟩
      rw [hul, List.take_length, ← hdn] at hdp3
      exact ⟨acc', hD3, hdp3, fun b o e => k3 b o (ne_of_none e nD) (s2 _ _ (kk _ _ e))⟩
  · rintro H' ⟨acc, hD, hdp, kk⟩
    rw [hxl, List.take_length] at hdp
    exact q H' D acc kk nD hD hdp
end
end L20

namespace L20
open PySem PySem.Spec PyProof.Rows L2 GR WX
theorem lvls_nil : ∀ n, lvls n [] = []
  | 0 => rfl
  | n + 1 => by
    show [] ++ lvls n (down []) = []
    rw [List.nil_append, show down [] = [] from rfl, lvls_nil n]
theorem lvls_len {zs : List Str} {n : Nat} {x : PyData} (h : Ex zs n x) : (lvls n [x]).length ≤ (flatP n x).length := by
  have := (lvls_perm n [x]).length_eq
  rw [List.flatMap_cons, List.flatMap_nil, List.append_nil] at this
  exact Nat.le_of_eq this
/-- how many levels there are, from l on -/
def deepN : Nat → List PyData → Nat
  | 0, _ => 0
  | n + 1, l => if l.isEmpty then 0 else 1 + deepN n (down l)
theorem deepN_nil : ∀ n, deepN n [] = 0
  | 0 => rfl
  | n + 1 => rfl
section
variable {P : Program} {w : World} {K : PySem.W.Frag} {mg : Str → Option Value} {base : Heap}
abbrev s_all_parts : Stmt := topS 9
theorem sc_all_parts : FnScope ["expression", "found", "level"] ["expression"] (defScope s_all_parts) := ⟨rfl, rfl, rfl, by decide +kernel, rfl, by decide +kernel, by decide +kernel⟩
def sp_all_parts (K : PySem.W.Frag) : Sp := fun vs H Q _ => ∃ (v : V) (x : PyData) (zs : List Str) (n : Nat), vs = [v] ∧ Dp K H v x ∧ Ex zs n x ∧ (flatP n x).length ≤ 2100000 ∧ ∀ H' p us, Same H H' → H p = none → H' p = some (.lst us) → DpAll K H' us (lvls n [x]) → Q (.ref p) H'
theorem ok_all_parts {f fc : Addr} {fd fdc : FuncData} {k : Nat} (F : Fun K "all_parts" "all_parts" s_all_parts f fd) (Gc : FnOk P w K mg base CX0 k fc fdc ["expressions"] (sp_one_deeper K)) (gc : mg "one_deeper" = some (.ref fc)) (Kc : PySem.W.keepIn K (.ref fc) = true) (bc : Binds K fdc ["expressions"] []) :
    FnOk P w K mg base CX0 (k + 1) f fd ["expression"] (sp_all_parts K) := by
  have nd := sc_all_parts.nd
  refine F.ok sc_all_parts (fun vs H Q E h => ?_) (fun cdv A outer s H vs Q E hr h => ?_)
  · obtain ⟨v, x, zs, n, rfl, _⟩ := h
    rfl
  obtain ⟨v, x, zs, n, rfl, hd, he, hb, q⟩ := h
  have hll := lvls_len he
  refine ⟨_, (pss_cons (ps_set (i := 1) nd rfl (.inl rfl) (pe_lst pa_nil))
      (pss_cons (ps_set (i := 2) nd rfl (.inl rfl) (pe_lst (pa_cons (pv 0) pa_nil)))
      (pss_cons (ps_while PassesOwn.never (pt_truth (pv 2) (fun _ => rfl))
      (pss_cons (ps_expr (pe_bm PySem.F.plainAttrs_list PySem.F.slot_list_extend PySem.F.type_list_extend mt_extend (pv 1) (pa_cons (pv 2) pa_nil)))
        (pss_one (ps_set (i := 2) nd rfl (.inl rfl) (pe_call Gc hr (by rfl) gc Kc bc .nil pass0 (pa_cons (pv 2) pa_nil))))))
      (pss_one (ps_ret (pv 1)))))), ?_⟩
  refine ⟨Nat.zero_le _, fun fo nfo => ?_⟩
  have sf := same_upd (o := .lst []) nfo
  have hf0 : upd H fo (.lst []) fo = some (.lst []) := upd_same
  refine ⟨v, rfl, small_le (show 1 ≤ 1000 by decide), fun lv nlv => ?_⟩
  have sl := same_upd (o := .lst [v]) nlv
  have hfl := ne_of_none hf0 nlv
  refine ⟨fun m σ H' => ∃ (lv : Addr) (acc us : List V) (done xs : List PyData), σ = [some v, some (.ref fo), some (.ref lv)] ∧ H' fo = some (.lst acc) ∧ H' lv = some (.lst us) ∧ fo ≠ lv ∧ DpAll K H' acc done ∧ DpAll K H' us xs ∧ (∀ y, y ∈ xs → Ex zs m y) ∧ (∀ y, y ∈ done → flatD y = true) ∧ done ++ lvls m xs = lvls n [x] ∧ (∀ b o, b ≠ fo → H b = some o → H' b = some o), ⟨n, ?_⟩, ?_⟩
  · refine ⟨lv, [], [v], [], [x], rfl, sl _ _ hf0, upd_same, hfl, .nil, .cons (he.kept (KeepT.of (sf.trans sl)) hd) .nil, ?_, fun y hy => (nomatch hy), rfl, fun b o _ e => sl _ _ (sf _ _ e)⟩
    intro y hy
    rw [List.mem_singleton.mp hy]
    exact he
  · rintro m σ H' ⟨lv, acc, us, done, xs, rfl, hfo, hlv, hne, hA, hX, hE, hF, hL, kk⟩
    have lA := dpAll_len hA
    have lX := dpAll_len hX
    refine ⟨.ref lv, rfl, !us.isEmpty, .inl ⟨us, .inl (.inl hlv), rfl⟩, ?_⟩
    cases us with
    | nil =>
      have hx : xs = [] := by
        cases hX
        rfl
      subst hx
      refine iteF ⟨.ref fo, rfl, q H' fo acc (fun b o e => kk b o (ne_of_none e nfo) e) nfo hfo ?_⟩
      rw [lvls_nil, List.append_nil] at hL
      rw [← hL]
      exact hA
    | cons u0 ur =>
      have hx : xs ≠ [] := by
        intro z
        rw [z] at lX
        cases lX
      obtain ⟨x0, hx0⟩ := List.exists_mem_of_ne_nil xs hx
      obtain ⟨m', rfl⟩ : ∃ m', m = m' + 1 := by
        cases m with
        | zero => cases hE x0 hx0
        | succ m' => exact ⟨m', rfl⟩
      have hl2 : done.length + xs.length ≤ 2100000 := by
        have := congrArg List.length hL
        rw [List.length_append, lvls, List.length_append] at this
        omega
      have hu := upd_same (H := H') (a := fo) (o := .lst (acc ++ u0 :: ur))
      refine iteT ⟨fun σ' H'' => ∃ (lv : Addr) (acc us : List V) (done xs : List PyData), σ' = [some v, some (.ref fo), some (.ref lv)] ∧ H'' fo = some (.lst acc) ∧ H'' lv = some (.lst us) ∧ fo ≠ lv ∧ DpAll K H'' acc done ∧ DpAll K H'' us xs ∧ (∀ y, y ∈ xs → Ex zs m' y) ∧ (∀ y, y ∈ done → flatD y = true) ∧ done ++ lvls m' xs = lvls n [x] ∧ (∀ b o, b ≠ fo → H b = some o → H'' b = some o),
        fun σ' H'' z => ⟨m', Nat.lt_succ_self m', z⟩, ?_⟩
      refine ⟨.ref fo, rfl, .inl ⟨rfl, _, .inl (.inl hfo)⟩, .ref lv, rfl, fo, lv, acc, u0 :: ur, rfl, rfl, hfo, hlv, ?_, ?_⟩
      · rw [lA, lX, sizeLine_eq]
        omega
      have k1 : KeepT H' (upd H' fo (.lst (acc ++ u0 :: ur))) := KeepT.lst hfo
      have hlv1 : upd H' fo (.lst (acc ++ u0 :: ur)) lv = some (.lst (u0 :: ur)) := by
        rw [upd_ne hne.symm]
        exact hlv
      have fX := flat_all hE
      have hA1 := dpAll_append (dp_keepAll k1 _ _ (flatDs_of hF) hA) (dp_keepAll k1 _ _ fX hX)
      have hX1 := dp_keepAll k1 _ _ fX hX
      refine ⟨.ref lv, rfl, lv, u0 :: ur, xs, zs, m', rfl, .inl (.inl hlv1), hX1, hE, by omega, fun H2 p us' s2 np hp hu' => ?_⟩
      have hfo2 := s2 _ _ hu
      refine ⟨p, acc ++ u0 :: ur, us', done ++ xs, down xs, rfl, hfo2, hp, ne_of_none hu np, ?_, hu', down_ex hE, ?_, ?_, fun b o hb e => ?_⟩
      · refine dp_keepAll (KeepT.of s2) _ _ (flatDs_append (flatDs_of hF) fX) hA1
      · intro y hy
        rcases List.mem_append.mp hy with hy | hy
        · exact hF y hy
        · exact (hE y hy).flat
      · rw [List.append_assoc]
        exact hL
      · refine s2 _ _ ?_
        rw [upd_ne hb]
        exact kk b o hb e
end
end L20

/-! Sets of texts that can be walked: what one more element does to the object, for any kind of key. -/
namespace TX
open PySem PySem.Spec PyProof.Rows L2
section
variable {P : Program} {w : World} {A : Around} {E : Value → Shared → Prop} {s : Shared} {a : Addr}
/-- the object at a is the same set with these entries, and its table is as good as before -/
structure Grown (h0 h : Heap) (a : Addr) (o : Obj) (t : SetTable) (l : List (Int × Value)) : Prop where
  same : Heap.SameBut a h0 h
  at' : ∃ es ep t', h.get? a = some { o with data := .set es ep t' } ∧ es.toList.Perm l ∧ t'.fits es.size = true ∧ (Ris t.place.toList → Ris t'.place.toList) ∧ t'.led = t.led
theorem got {h : Heap} {o : Obj} {es es' : Array (Int × Value)} {ep : Nat} {t t' : SetTable} (ho : h.get? a = some o) (hd : o.data = .set es ep t) :
    (h.update a (Obj.putSet es' t')).get? a = some { o with data := .set es' (ep + 1) t' } := store_at ho hd
/-- laid down, and laid anew where the table is too full -/
theorem tail {g : Bool → Sem Unit} (hg : ∀ (b : Bool) (s₁ : Shared) (Q' : Unit → Shared → Prop), Q' () s₁ → wpAny (model P w) A (g b) Q' E s₁) {o : Obj} {es es1 : Array (Int × Value)} {ep : Nat} {t t0 t2 : SetTable} (ho : s.heap.get? a = some o) (hd : o.data = .set es ep t)
    {l : List (Int × Value)} (pm : es1.toList.Perm l) (small : es1.size < scanBound) (fit : t2.fits es1.size = true) (ris : Ris t0.place.toList → Ris t2.place.toList) (led : t2.led = t0.led) {d : Bool} {R : Option Bool → Shared → Prop}
    (done : ∀ h', Grown s.heap h' a o t0 l → R (some true) { s with heap := h' }) :
    wpAny (model P w) A (do
        storeSet a es1 t2
        if (!d && t2.tooFull) = true then do
            g (relayAll t2 es1 (SetTable.grown es1.size)).2.2
            storeSet a (relayAll t2 es1 (SetTable.grown es1.size)).1 (relayAll t2 es1 (SetTable.grown es1.size)).2.1
            pure (some true)
          else pure (some true)) R E s := by
  have h1 := got (es' := es1) (t' := t2) ho hd
  have b1 := Heap.SameBut.update s.heap a (Obj.putSet es1 t2)
  apply wpAny_bind
  refine wpAny_storeSet_of ho hd ?_ (fits_of_scanBound small)
  by_cases full : (!d && t2.tooFull) = true
  · rw [if_pos full]
    have p2 := relayAll_perm t2 es1 (SetTable.grown es1.size)
    have small2 : (relayAll t2 es1 (SetTable.grown es1.size)).1.size < scanBound := by
      have := p2.length_eq
      rw [Array.length_toList, Array.length_toList] at this
      omega
    apply wpAny_bind
    refine hg _ _ _ ?_
    apply wpAny_bind
    refine wpAny_storeSet_of h1 rfl ?_ (fits_of_scanBound small2)
    exact wpAny_pure (done _ ⟨b1.trans (Heap.SameBut.update _ a _), _, _, _, (got (o := { o with data := .set es1 (ep + 1) t2 }) h1 rfl : _), p2.trans pm, relayAll_fits t2 es1 _, fun _ => relayAll_ris t2 es1 _, (relayAll_led t2 es1 _).trans led⟩)
  · rw [if_neg full]
    exact wpAny_pure (done _ ⟨b1, es1, _, t2, h1, pm, fit, ris, led⟩)

/-- one more element, or none where it is in -/
theorem add {K : Type} [DecidableEq K] {knd : PySem.KeyKind P w K} {o : Obj} {es : Array (Int × Value)} {ep : Nat} {t : SetTable} {k : K} {v : Value} {Q : Bool → Shared → Prop} (ho : s.heap.get? a = some o) (hd : o.data = .set es ep t) (hel : ElemsOf knd es.toList)
    (small : es.size + 1 < scanBound) (hf : t.fits es.size = true) (hk : knd.is k v = true) (hsc : v.scannable = true) (old : (∃ e ∈ es.toList, knd.is k e.2 = true) → Q false s)
    (new : (∀ e ∈ es.toList, knd.is k e.2 = false) → ∀ h', Grown s.heap h' a o t ((knd.hash k, v) :: es.toList) → Q true { s with heap := h' }) : wpAny (model P w) A (setAddHashed a v (knd.hash k)) Q E s := by
  unfold setAddHashed setAddHashedIn
  apply wpAny_holding
  apply wpAny_bind
  refine wpAny_setState_of ho hd hf ?_
  dsimp only
  rw [byScan_of hsc (by omega) hel]
  simp only [↓reduceIte]
  unfold setAddByScan
  apply wpAny_bind
  apply wpAny_bind
  apply wpAny_rule
  apply wpAny_bind
  refine wpAny_setScan_of hk ho hd hf hel ?_
  cases hfi : List.findIdx? (fun e => knd.is k e.2) es.toList with
  | some j =>
    dsimp only
    obtain ⟨hj, pj, _⟩ := List.findIdx?_eq_some_iff_getElem.mp hfi
    exact wpAny_pure (wpAny_pure (old ⟨_, List.getElem_mem hj, pj⟩))
  | none =>
    dsimp only
    have out : ∀ e ∈ es.toList, knd.is k e.2 = false := fun e he => by
      have := List.findIdx?_eq_none_iff.mp hfi e he
      simpa using this
    have pm : (layNew t es (knd.hash k) v).1.toList.Perm ((knd.hash k, v) :: es.toList) := by
      have := layNew_perm t es (knd.hash k) v
      rw [Array.toList_push] at this
      exact this.trans (List.perm_append_singleton _ _)
    have small1 : (layNew t es (knd.hash k) v).1.size < scanBound := by
      have := pm.length_eq
      rw [Array.length_toList, List.length_cons, Array.length_toList] at this
      omega
    have fit := layNew_fits t es (knd.hash k) v
    have ris := layNew_ris t es (knd.hash k) v
    have led := layNew_led t es (knd.hash k) v
    have wg : ∀ (b : Bool) {s₁ : Shared} {Q' : Unit → Shared → Prop}, Q' () s₁ → wpAny (model P w) A (match b with | true => rule "set.scan.the-table-gave-way" | false => pure ()) Q' E s₁ := fun b s₁ Q' q => by
      cases b
      · exact wpAny_pure q
      · exact wpAny_rule q
    generalize layNew t es (knd.hash k) v = Z at pm small1 fit ris led ⊢
    obtain ⟨es1, t1, dummy, gave⟩ := Z
    dsimp only at pm small1 fit ris led ⊢
    apply wpAny_bind
    refine wg _ ?_
    have gave' : ∀ (b : Bool) (s₁ : Shared) (Q' : Unit → Shared → Prop), Q' () s₁ → wpAny (model P w) A (match b with | true => rule "set.scan.the-table-gave-way" | false => pure ()) Q' E s₁ := fun b s₁ Q' q => wg b q
    by_cases pl : t1.plain = true
    · rw [if_pos pl]
      apply wpAny_bind
      rw [hashByValue_scannable 8 hsc]
      apply wpAny_pure
      cases plainKind v with
      | true =>
        simp only [if_true]
        refine tail gave' ho hd pm small1 fit ris led ?_
        intro h' G
        exact wpAny_pure (new out h' G)
      | false =>
        simp only [Bool.false_eq_true, if_false]
        refine tail gave' ho hd pm small1 (SetTable.fits_plain_off fit) ris led ?_
        intro h' G
        exact wpAny_pure (new out h' G)
    · rw [if_neg pl]
      apply wpAny_bind
      apply wpAny_pure
      simp only [↓reduceIte]
      refine tail gave' ho hd pm small1 fit ris led ?_
      intro h' G
      exact wpAny_pure (new out h' G)
end
end TX

/-! Sets of texts: new, one more, sorted. -/
namespace TX
open PySem PySem.Spec PyProof.Rows L2
/-- these entries are the texts l -/
structure Els (w : World) (es : List (Int × Value)) (l : List Str) : Prop where
  each : ∀ e ∈ es, ∃ x u, e.2 = Value.str x u ∧ e.1 = hashStr w x
  perm : (es.map fun e => PyProof.Rows.strOf e.2).Perm l
/-- the set of the texts l at a; it can be walked -/
def SetS (w : World) (h : Heap) (a : Addr) (l : List Str) : Prop :=
  ∃ o es ep t, h.get? a = some o ∧ o.ExactSet ∧ o.data = .set es ep t ∧ Els w es.toList l ∧ l.Nodup ∧ es.size < scanBound ∧ t.fits es.size = true ∧ Ris t.place.toList ∧ (w.params.followText "set-order" = true ∨ t.led = true)
theorem SetS.keep {w : World} {h h' : Heap} {a : Addr} {l : List Str} (R : SetS w h a l) (k : ∀ o, h.get? a = some o → h'.get? a = some o) : SetS w h' a l := by
  obtain ⟨o, es, ep, t, ho, r⟩ := R
  exact ⟨o, es, ep, t, k o ho, r⟩
theorem isStr {P : Program} {w : World} (x : Str) (u : Tok) : (PySem.strKind P w).is x (.str x u) = true := by
  show Value.isStrOf x (.str x u) = true
  simp [Value.isStrOf]
theorem Els.kind {P : Program} {w : World} {es : List (Int × Value)} {l : List Str} (G : Els w es l) : ElemsOf (PySem.strKind P w) es := by
  intro e he
  obtain ⟨x, u, e2, e1⟩ := G.each e he
  exact ⟨⟨x, by rw [e2]; exact isStr x u, e1⟩, by rw [e2]; rfl⟩
theorem Els.mem {P : Program} {w : World} {es : List (Int × Value)} {l : List Str} (G : Els w es l) (x : Str) : (∃ e ∈ es, (PySem.strKind P w).is x e.2 = true) ↔ x ∈ l := by
  rw [← G.perm.mem_iff, List.mem_map]
  constructor
  · rintro ⟨e, he, q⟩
    obtain ⟨y, u, e2, _⟩ := G.each e he
    refine ⟨e, he, ?_⟩
    rw [e2] at q ⊢
    exact (PySem.strKind P w).inj (.str y u) y x (isStr y u) q
  · rintro ⟨e, he, q⟩
    obtain ⟨y, u, e2, _⟩ := G.each e he
    refine ⟨e, he, ?_⟩
    rw [e2] at q ⊢
    rw [← q]
    exact isStr y u
theorem Els.more {P : Program} {w : World} {es es' : List (Int × Value)} {l : List Str} {x : Str} {u : Tok} (G : Els w es l) (p : es'.Perm (((PySem.strKind P w).hash x, Value.str x u) :: es)) : Els w es' (x :: l) := by
  constructor
  · intro e he
    rcases List.mem_cons.mp (p.mem_iff.mp he) with rfl | he
    · exact ⟨x, u, rfl, rfl⟩
    · exact G.each e he
  · exact (p.map _).trans (G.perm.cons x)
/-- x put in -/
def put (x : Str) (l : List Str) : List Str := if x ∈ l then l else x :: l
theorem mem_put {x y : Str} {l : List Str} : y ∈ put x l ↔ y = x ∨ y ∈ l := by
  unfold put
  by_cases h : x ∈ l
  · rw [if_pos h]
    exact ⟨.inr, fun z => z.elim (fun e => e ▸ h) id⟩
  · rw [if_neg h, List.mem_cons]
theorem put_nodup {x : Str} {l : List Str} (h : l.Nodup) : (put x l).Nodup := by
  unfold put
  by_cases q : x ∈ l
  · rw [if_pos q]
    exact h
  · rw [if_neg q]
    exact List.nodup_cons.mpr ⟨q, h⟩
theorem put_length {x : Str} {l : List Str} : (put x l).length ≤ l.length + 1 := by
  unfold put
  by_cases q : x ∈ l
  · rw [if_pos q]
    omega
  · rw [if_neg q, List.length_cons]
    exact Nat.le_refl _
section
variable {P : Program} {w : World} {A : Around} {E : Value → Shared → Prop} {s : Shared} {a : Addr} {l : List Str}
theorem SetS.typeIs (R : SetS w s.heap a l) : s.TypeIs (.ref a) "set" := by
  obtain ⟨o, es, ep, t, ho, hx, _⟩ := R
  exact ⟨o, ho, hx.1⟩
theorem call_add {x : Str} {u : Tok} {Q : Value → Shared → Prop} (R : SetS w s.heap a l) (small : l.length + 1 < scanBound) (hQ : ∀ h', Heap.SameBut a s.heap h' → SetS w h' a (put x l) → Q .none { s with heap := h', toks := s.toks + 1 }) :
    wpAny (model P w) A (call (.builtin "set.add") [.ref a, .str x u]) Q E s := by
  refine wpAny_call_entry F.slot_set_add R.typeIs F.entry_set_add ?_ (F.args_set_add_2 _ _)
  obtain ⟨o, es, ep, t, ho, hx, hd, G, nd, hb, hf, hr, hl⟩ := R
  unfold Builtin.«set.add» Builtin.Frozenset.oneOther
  simp only [List.isEmpty_nil, bind_assoc]
  unfold Builtin.Frozenset.addrOf setAdd
  apply wpAny_bind
  apply wpAny_pure
  try dsimp only
  apply wpAny_bind
  apply wpAny_pure
  try dsimp only
  apply wpAny_bind
  apply wpAny_holding
  apply wpAny_bind
  refine (PySem.strKind P w).pyHash (isStr x u) ?_
  have sz : es.size = l.length := by
    have := G.perm.length_eq
    rw [List.length_map, Array.length_toList] at this
    exact this
  refine add (s := { s with toks := s.toks + 1 }) (knd := PySem.strKind P w) (k := x) (v := .str x u) ho hd G.kind (by omega) hf (isStr x u) rfl ?_ ?_
  · intro hin
    show wpAny _ _ (ret Value.none) _ _ _
    refine wpAny_pure ⟨_, rfl, hQ s.heap (Heap.SameBut.refl a s.heap) ?_⟩
    unfold put
    rw [if_pos ((G.mem x).1 hin)]
    exact ⟨o, es, ep, t, ho, hx, hd, G, nd, hb, hf, hr, hl⟩
  · intro out h' N
    show wpAny _ _ (ret Value.none) _ _ _
    refine wpAny_pure ⟨_, rfl, hQ h' N.same ?_⟩
    have hn : x ∉ l := fun z => by
      obtain ⟨e, he, q⟩ := (G.mem (P := P) x).2 z
      rw [out e he] at q
      cases q
    unfold put
    rw [if_neg hn]
    obtain ⟨es1, ep1, t1, h1, p1, f1, r1, l1⟩ := N.at'
    have sz1 : es1.size = es.size + 1 := by
      have := p1.length_eq
      rw [Array.length_toList, List.length_cons, Array.length_toList] at this
      exact this
    exact ⟨_, es1, ep1, t1, h1, hx, rfl, G.more (P := P) p1, List.nodup_cons.mpr ⟨hn, nd⟩, by omega, f1, r1 hr, hl.imp id fun z => l1.trans z⟩
theorem fresh {h : Heap} (w : World) : SetS w (h.push { cls := .type "set", dict := none, data := .set #[] 0 (.fresh 0 0 (!w.params.followText "set-order")) }) h.objs.size [] := by
  refine ⟨_, #[], 0, _, Heap.get?_push_size _ rfl, ⟨rfl, rfl, rfl⟩, rfl, ⟨fun e he => by simp at he, .nil⟩, .nil, by decide, by rfl, .nil, ?_⟩
  show _ ∨ (!w.params.followText "set-order") = true
  cases w.params.followText "set-order"
  · exact .inr rfl
  · exact .inl rfl
/-- sorted(it) -/
theorem call_sorted {Q : Value → Shared → Prop} (R : SetS w s.heap a l) (hh : A.handled = none) (h64 : l.length < 64)
    (hQ : ∀ s' p (out : Array Value) (c : Nat) (ys : List Str), (∀ b o, s.heap.get? b = some o → s'.heap.get? b = some o) → s'.gens = s.gens → s'.os = s.os → s.heap.objs.size ≤ p → s'.heap.get? p = some (seqObj "list" out c) → StrsAre out.toList ys → ys.Perm l → sortedS ys = true → Q (.ref p) s') :
    wpAny (model P w) A (call (.builtin "sorted") [.ref a]) Q E s := by
  obtain ⟨o, es, ep, t, ho, hx, hd, G, nd, hb, hf, hr, hl⟩ := R
  refine Calls.call_function_entry kind_sorted plain_sorted entry_sorted (args_sorted1 _) ?_
  unfold Builtin.«sorted»
  apply wpAny_bind (m := checkCount "sorted" 1 1 _)
  apply wpAny_pure
  apply wpAny_bind
  refine collect_set (A := A.in1) hh ⟨o, ho, hx.1, hd⟩ hf hb hr hl fun s1 vs k1 hz g1 o1 pm => ?_
  have hS : StrsAre vs (vs.map PyProof.Rows.strOf) := strsAre_map vs fun v hv => by
    obtain ⟨e, he, rfl⟩ := List.mem_map.mp (pm.mem_iff.mp hv)
    obtain ⟨x, u, e2, _⟩ := G.each e he
    exact ⟨x, u, e2⟩
  have pl : (vs.map PyProof.Rows.strOf).Perm l := by
    have q := pm.map PyProof.Rows.strOf
    rw [List.map_map] at q
    exact q.trans G.perm
  have hv : vs.length = l.length := by
    have := pl.length_eq
    rw [List.length_map] at this
    exact this
  apply wpAny_bind
  refine wpAny_newList ?_ (by rw [hv, sizeLine_eq]; omega)
  have hL : (s1.heap.push (seqObj "list" vs.toArray 0)).get? s1.heap.objs.size = some (seqObj "list" vs.toArray 0) := Heap.get?_push_size _ rfl
  apply wpAny_bind
  apply wpAny_holding
  refine wpAny_call_entry slot_list_sort ⟨_, hL, rfl⟩ entry_list_sort (list_sort_treeK strKind_oneLt hL hS.keysOf (fun v₁ v₂ rest e => keyKind_strs (by rw [← e]; exact hS)) (by rw [hv]; exact h64) fun st' hp hs => ⟨_, rfl, ?_⟩) (args_list_sort _)
  obtain ⟨ys, y1, y2, y3⟩ := sorted_out_str hS hp hs
  obtain ⟨c, hc⟩ := sortedHeap_at (vs := vs) (out := (arrOf st').map (·.2)) hL
  refine wpAny_pure ⟨_, rfl, hQ _ s1.heap.objs.size _ c ys (fun b u e => ?_) g1 o1 hz hc y1 (y2.trans pl) y3⟩
  have q := k1 b u e
  have lt := Heap.lt_size q
  show (sortedHeap (s1.heap.push (seqObj "list" vs.toArray 0)) s1.heap.objs.size vs _).get? b = some u
  rw [sortedHeap_old (Nat.ne_of_lt lt) (by rw [size_push']; exact Nat.lt_succ_of_lt lt)]
  exact Heap.get?_push_of_some _ q
end
end TX

/-! Sets of texts as things of the hand layer: a comprehension, sorted. -/
namespace TX
open PySem PySem.Spec PyProof.Rows L2
/-- the set of the texts l at a -/
def SetSO (w : World) (a : Addr) (l : List Str) : HO := .ext fun h => SetS w h a l
theorem so_new {w : World} {P : Program} {H : Hp} {h : Heap} {a : Addr} {l : List Str} (R : SetS w h a l) : ObjOk P w H h a (SetSO w a l) := by
  have ⟨o, _, _, _, ho, _⟩ := R
  exact ⟨R, ⟨o, ho⟩, fun h1 h2 p k => SetS.keep p k⟩
section
variable {X : Cx} {pins : List (Addr × Obj)} {σ : L2.St} {H : Hp} {s : Shared} {a : Addr} {l : List Str}
theorem so_get (I : Inv X pins σ H s) (ha : H a = some (SetSO X.w a l)) : SetS X.w s.heap a l := (I.hok a _ ha).1
theorem so_add {E : Value → Shared → Prop} {x : Str} {u : Tok} {Q : Value → Shared → Prop} (I : Inv X pins σ H s) (ha : H a = some (SetSO X.w a l)) (small : l.length + 1 < scanBound)
    (h : ∀ s', Inv X pins σ (upd H a (SetSO X.w a (put x l))) s' → Q .none s') : wpAny (model X.prog X.w) X.A (call (.builtin "set.add") [.ref a, .str x u]) Q E s := by
  refine call_add (so_get I ha) small fun h' sb new => ?_
  have there : ∃ o, h'.get? a = some o := by
    have ⟨o, _, _, _, ho, _⟩ := new
    exact ⟨o, ho⟩
  exact h _ (I.write (e := a) (t' := s.toks + 1) (by rw [ha]; trivial) (.inl rfl) (fun b o hb ho => (sb.2 b hb).trans ho) there (so_new new))
/-- sorted(a set of texts), fewer than 64 -/
def rSortedSS (w : World) : List V → Hp → VK → Prop := fun vs H Q => ∃ (a : Addr) (l : List Str), vs = [V.ref a] ∧ H a = some (SetSO w a l) ∧ l.length < 64 ∧ ∀ (ys : List Str) (p : Addr), ys.Perm l → sortedS ys = true → H p = none → Q (.ref p) (upd H p (.lst (ys.map V.str)))
theorem cr_sortedSS (hc : X.calm = true) : CallR X (.builtin "sorted") (rSortedSS X.w) := by
  intro pins s σ H vs us Q I r h
  obtain ⟨a, l, rfl, ha, h64, q⟩ := h
  rw [Vals.ref1 r]
  refine call_sorted (so_get I ha) (I.ok.hd hc) h64 fun s' p out c ys k g o hp hg hi hy hs => ?_
  have hlen : (ys.map V.str).length ≤ sizeLine := by
    rw [List.length_map, hy.length_eq, sizeLine_eq]
    omega
  have hn : H p = none := I.hok.fresh hp
  have J : Inv X pins σ (upd H p (.lst (ys.map V.str))) { s with heap := s'.heap, gens := s'.gens, drawn := s'.drawn, toks := s'.toks } :=
    I.call (ch := []) (Un.laid k hp hn) (I.hok.laid k hp ⟨hlen, out.toList, c, vals_of_strs hi, hg⟩) (by rw [g]; exact I.bare) (fun _ z => nomatch z)
  have e : s' = { s with heap := s'.heap, gens := s'.gens, drawn := s'.drawn, toks := s'.toks } := by
    cases s'
    cases s
    cases o
    rfl
  rw [e]
  exact ⟨.ref p, _, J, rfl, q ys p hy hs hn⟩
end
end TX

/-! {elt for target in iter if ..}, elt a text. -/
namespace TX
open PySem PySem.Spec PyProof.Rows L2 PpSet
/-- the element goes into the set at D -/
def Into (w : World) (D : Addr) (Nx : Hp → Prop) : VK := fun y H => ∃ (z : Str) (l : List Str), y = .str z ∧ H D = some (SetSO w D l) ∧ l.length + 1 < scanBound ∧ Nx (upd H D (SetSO w D (put z l)))
/-- one turn: target, tests, element -/
def Turn (w : World) (g : TG) (tt : TT) (te : TE) (vs : List Nat) (σ : L2.St) (D : Addr) (Nx : Hp → Prop) (x : V) (H : Hp) : Prop :=
  g x (wipe σ vs) H fun σ2 H2 => wipe σ2 vs = wipe σ vs ∧ tt σ2 H2 fun b H3 => if b = true then te σ2 H3 (Into w D Nx) else Nx H3
/-- the set comprehension's reading: W i m what holds before turn i, m falls -/
def tScS (w : World) (wi : TI) (g : TG) (tt : TT) (te : TE) (vs : List Nat) : TE := fun σ H Q => wi σ H fun J H1 => ∀ D, H1 D = none → ∃ W : Nat → Nat → Hp → Prop, (∃ m, W 0 m (upd H1 D (SetSO w D []))) ∧ ∀ i m H, W i m H →
  (J.stop i H ∧ Q (.ref D) H) ∨ (J.go i H ∧ ∃ Nx : Hp → Prop, (∀ H', Nx H' → ∃ m', m' < m ∧ W (i + 1) m' H') ∧ ∀ x H', J.yld i H x H' → Turn w g tt te vs σ D Nx x H')
section
variable {X : Cx}
theorem pe_scS {elt tg iter : Expr} {ifs : List Expr} {scope : Scope} {own : List (PySem.Str × Nat)} {pos : Pos} {wi : TI} {g : TG} {tt : TT} {te : TE} (hc : X.calm = true) (hN : X.N.Nodup) (hi : PI X tg iter wi) (ok : BlkOk X.N X.env.scope scope own)
    (hg : ∀ (s : Shared) (H : Hp) (C : Addr) (cl : List (PySem.Str × Addr)) (fp : List Addr), PG (X.blk s H scope (compEnvC scope cl C X.env) fp) tg g) (ht : ∀ (s : Shared) (H : Hp) (C : Addr) (cl : List (PySem.Str × Addr)) (fp : List Addr), PTs (X.blk s H scope (compEnvC scope cl C X.env) fp) ifs tt)
    (he : ∀ (s : Shared) (H : Hp) (C : Addr) (cl : List (PySem.Str × Addr)) (fp : List Addr), PE (X.blk s H scope (compEnvC scope cl C X.env) fp) elt te) (hs : ∀ x, foldedSetIterable iter X.env x = pure x := by intro _; rfl) :
    PE X (.SetComp elt [⟨tg, iter, ifs, 0⟩] scope pos) (tScS X.w wi g tt te (own.map (·.2))) := by
  refine ⟨fun pins s σ H Q I h => ?_⟩
  rw [eval_SetComp]
  have free : ∀ y ∈ scope.names, y.2 = .free → ∃ c, X.env.cells.lookup y.1 = some c := fun y hy e => (ok.free y hy e).elim (fun k => I.ok.has _ (.inl k)) (fun k => I.ok.has _ (.inr k))
  refine wpAny_comprehension_free rfl hs (closure_ok free) ok.kind (fun y hy e => by rw [ok.uniq y hy, e]) (thn (hi.run pins s σ H _ I h) fun xv s1 hx => thn hx fun itv s2 h2 => ?_)
  obtain ⟨it, fp, tn, J, H2, e, I2, T, st2, f2, q⟩ := h2
  subst e
  refine newSet_ok (newEnv_comp ?_)
  -- the new set is tracked
  obtain ⟨D, hD⟩ : ∃ D, s2.heap.objs.size = D := ⟨_, rfl⟩
  rw [hD]
  obtain ⟨W, ⟨m0, w0⟩, turn⟩ := q D (I2.hok.fresh (Nat.le_of_eq hD))
  obtain ⟨s3, hs3⟩ : ∃ s3 : Shared, ({ s2 with heap := s2.heap.push { cls := .type "set", dict := none, data := .set #[] 0 (.fresh 0 0 (!X.w.params.followText "set-order")) } } : Shared) = s3 := ⟨_, rfl⟩
  have h3 : s3.heap = s2.heap.push { cls := .type "set", dict := none, data := .set #[] 0 (.fresh 0 0 (!X.w.params.followText "set-order")) } := by rw [← hs3]
  obtain ⟨H3, hH3⟩ : ∃ H3, upd H2 D (SetSO X.w D []) = H3 := ⟨_, rfl⟩
  have I3 : Inv X pins σ H3 s3 := by
    rw [← hs3, ← hH3]
    refine I2.laid (t' := s2.toks) (fun b o e => Heap.get?_push_of_some _ e) (Nat.le_of_eq hD) ?_
    rw [← hD]
    exact so_new (fresh X.w)
  rw [hs3]
  rw [hH3] at w0
  -- what the iterator stands upon is not tracked
  have foot : ∀ b ∈ fp, FpOk X pins H3 b ∧ b < s3.heap.objs.size := fun b hb => by
    obtain ⟨o, e, _⟩ := T.obj _ _ st2 b hb
    have lt := Heap.lt_size e
    refine ⟨⟨?_, (f2 b hb).2⟩, ?_⟩
    · rw [← hH3, upd_ne (by rw [← hD]; exact Nat.ne_of_lt lt)]
      exact (f2 b hb).1
    · rw [h3, Heap.size_push]
      exact Nat.lt_succ_of_lt lt
  have st3 : tn 0 s3.heap := T.keep _ _ _ st2 fun b _ o e => by
    rw [h3]
    exact Heap.get?_push_of_some _ e
  have I4 := block_start I3 ok hN foot
  have pg := hg s3 H3 s3.heap.objs.size (cellsFrom (s3.heap.objs.size + 1) scope.names (cloFrom X.env.cells scope.names [])) fp
  have pt := ht s3 H3 s3.heap.objs.size (cellsFrom (s3.heap.objs.size + 1) scope.names (cloFrom X.env.cells scope.names [])) fp
  have pe := he s3 H3 s3.heap.objs.size (cellsFrom (s3.heap.objs.size + 1) scope.names (cloFrom X.env.cells scope.names [])) fp
  show codeAny _ _ (.compStart (.SetComp elt [⟨tg, iter, ifs, 0⟩] scope pos) 0 (.ref it) (.ref D) (compEnvC scope (cellsFrom (s3.heap.objs.size + 1) scope.names (cloFrom X.env.cells scope.names [])) s3.heap.objs.size X.env)) _ { s3 with heap := pushCells (s3.heap.push { cls := .type "dict", data := .dict #[] }) scope.names }
  have bare : ∀ b ∈ fp, H3 b = none := fun b hb => (foot b hb).1.1
  generalize hce : compEnvC scope (cellsFrom (s3.heap.objs.size + 1) scope.names (cloFrom X.env.cells scope.names [])) s3.heap.objs.size X.env = ce at I4 pg pt pe ⊢
  have cL : ce.locals = s3.heap.objs.size := by
    subst hce
    rfl
  generalize hs4 : ({ s3 with heap := pushCells (s3.heap.push { cls := .type "dict", data := .dict #[] }) scope.names } : Shared) = s4 at I4 ⊢
  have st4 : tn 0 s4.heap := T.keep _ _ _ st3 fun b _ o e => by
    rw [← hs4]
    exact pushCells_keeps _ _ _ _ (Heap.get?_push_of_some _ e)
  -- in the block as well
  have stat : ∀ {σ' : L2.St} {H' : Hp} {s' : Shared}, Inv (X.blk s3 H3 scope ce fp) [] σ' H' s' → (∀ b ∈ fp, H' b = none) → ∀ b ∈ fp, FpOk (X.blk s3 H3 scope ce fp) [] H' b := fun {σ' H' s'} I' hn b hb =>
    ⟨hn b hb, (I'.ok.exf b hb).1, I'.ok.exfs b hb, .inl hb, fun x c e => (I'.ok.exf b hb).2 x c e, fun p hp => absurd (show p ∈ ([] : List (Addr × Obj)) ++ [] from hp) (by simp)⟩
  refine (fun (loop : codeAny (model X.prog X.w) X.A (.compLoop (.SetComp elt [⟨tg, iter, ifs, 0⟩] scope pos) 0 (.ref it) (.ref D) ce) _ s4) => codeAny_compStart_set loop (T.self X.A 0 _ _ _ st4 loop)) ?_
  refine compLoopS_any (fun n s' => ∃ i H', Inv (X.blk s3 H3 scope ce fp) [] (wipe σ (own.map (·.2))) H' s' ∧ tn i s'.heap ∧ (∀ b ∈ fp, H' b = none) ∧ W i n H') ?_ m0 ⟨0, H3, I4, st4, bare, w0⟩
  rintro n s5 ⟨i, H5, I5, st5, n5, w5⟩
  rcases turn i n H5 w5 with ⟨stop, fin⟩ | ⟨go, Nx, hNx, step⟩
  · refine thnF (T.done (X.blk s3 H3 scope ce fp) rfl rfl rfl hc i [] s5 _ H5 (fun _ _ => False) I5 (stat I5 n5) st5 stop) fun r s6 ⟨hr, I6⟩ => ?_
    subst hr
    have I7 : Inv X pins σ H5 s6 := I3.call' (ch := fp) I6.os I6.base I6.hok I6.bare fun b hb => ⟨(foot b hb).1.2.2.2.1, (foot b hb).1.2.1, (foot b hb).1.2.2.2.2.1, (foot b hb).1.2.2.2.2.2⟩
    have gone : H5 s3.heap.objs.size = none := by
      have z : H5 ce.locals = none := I6.free
      rw [cL] at z
      exact z
    obtain ⟨m, hn, _⟩ := I6.loc
    have hn : s6.heap.Ns ce.locals m := hn
    rw [cL] at hn
    refine ⟨m, hn, fun h'' sb => ?_⟩
    obtain ⟨f0, f1, f2', f3, f4, f5⟩ := I3.fpOk (Nat.le_refl _) gone
    exact ⟨.ref D, H5, I7.turned (t' := s6.toks) (fun b o hb e => (sb.2 b hb).trans e) f0 f1 f3 f4 f5, rfl, fin⟩
  · refine thnF (T.item (X.blk s3 H3 scope ce fp) rfl rfl rfl hc i [] s5 _ H5 (fun _ _ => False) I5 (stat I5 n5) st5 go) fun r s6 ⟨u, hr, h6⟩ => ?_
    subst hr
    refine thnF h6 fun _ s7 ⟨x, H7, I7, r7, y7, st7, n7⟩ => ?_
    have I7' := I7.pinned (stat I7 n7) (T.obj _ _ st7)
    refine thnF (pg.run _ s7 _ H7 x u _ I7' r7 (step x H7 y7)) fun _ s8 ⟨σ8, H8, I8, hw8, q8⟩ => ?_
    refine thnF (pt.run _ s8 σ8 H8 _ I8 q8) fun b s9 ⟨H9, I9, q9⟩ => ?_
    have next : ∀ {s' : Shared} {H' : Hp}, Inv (X.blk s3 H3 scope ce fp) ([] ++ pinsAt fp s7.heap) σ8 H' s' → Nx H' → ∃ m, m < n ∧ ∃ i H', Inv (X.blk s3 H3 scope ce fp) [] (wipe σ (own.map (·.2))) H' s' ∧ tn i s'.heap ∧ (∀ b ∈ fp, H' b = none) ∧ W i m H' := fun {s' H'} I' nx => by
      obtain ⟨m', hm, w'⟩ := hNx H' nx
      have pinned : ∀ b ∈ fp, ∀ o, s7.heap.get? b = some o → s'.heap.get? b = some o ∧ H' b = none := fun b hb o e => by
        have z := I'.pin (b, o) (List.mem_append_right _ (List.mem_append_right _ (mem_pinsAt hb e)))
        exact ⟨z.1, z.2.1⟩
      have len : (wipe σ (own.map (·.2))).length = σ8.length := by rw [← hw8, wipe_length]
      refine ⟨m', hm, i + 1, H', (I'.unpinned (pins := [])).weak len (fun j v e => ?_), T.keep _ _ _ st7 fun b hb o e => (pinned b hb o e).1, fun b hb => ?_, w'⟩
      · rw [← hw8] at e
        exact (wipe_some e).1
      · obtain ⟨o, e, _⟩ := T.obj _ _ st7 b hb
        exact (pinned b hb o e).2
    cases b with
    | false =>
      simp only [Bool.false_eq_true, if_false] at q9 ⊢
      exact next I9 q9
    | true =>
      simp only [if_true] at q9 ⊢
      refine thnF (pe.run _ s9 σ8 H9 _ I9 q9) fun z s10 ⟨yv, H10, I10, r10, zt, l0, ey, hD10, hz10, nx⟩ => ?_
      subst ey
      obtain ⟨tk, rfl⟩ : ∃ tk, z = Value.str zt tk := r10
      exact so_add (X := X.blk s3 H3 scope ce fp) I10 hD10 hz10 fun s11 I11 => next I11 nx
end
end TX

namespace L20
open PySem PySem.Spec PyProof.Rows L2 GR WX TX
def varName : PyData → Option Str
  | .tuple [.str w, .str z] => if w = "var" then some z else none
  | _ => none
/-- the variables among these parts -/
def vars (l : List PyData) : List Str := l.filterMap varName
theorem Ex.var {zs : List Str} {n : Nat} {rest : List PyData} (h : Ex zs n (.tuple (.str "var" :: rest))) : ∃ z, z ∈ zs ∧ rest = [.str z] := by
  generalize hx : PyData.tuple (.str "var" :: rest) = x at h
  cases h with
  | leaf n x h =>
    cases h with
    | int i _ _ => cases hx
    | let_ i _ _ => cases hx
    | key => cases hx
    | var z hz =>
      cases hx
      exact ⟨z, hz, rfl⟩
  | cell n t v x h1 h2 h3 => cases hx
  | op n o x y h1 h2 h3 =>
    cases hx
    exact absurd h1 (by decide)
  | iff n x y z h1 h2 h3 => cases hx
  | agg n o t xs ys h1 h2 h3 h4 h5 =>
    cases hx
    simp only [aggs, List.mem_cons, List.not_mem_nil, or_false, Prod.mk.injEq] at h1
    rcases h1 with ⟨h, _⟩ | ⟨h, _⟩ | ⟨h, _⟩ | ⟨h, _⟩ <;> exact absurd h (by decide)
theorem varName_no {w : Str} {rest : List PyData} (h : w ≠ "var") : varName (.tuple (.str w :: rest)) = none := by
  unfold varName
  split
  · rename_i w' z e
    cases e
    rw [if_neg h]
  · rfl
theorem vars_take {l : List PyData} {i : Nat} {x : PyData} (h : l[i]? = some x) : vars (l.take (i + 1)) = vars (l.take i) ++ (varName x).toList := by
  unfold vars
  rw [take_snoc h, List.filterMap_append]
  cases e : varName x with
  | none => simp [e]
  | some z => simp [e]
theorem lvls_ex {zs : List Str} : ∀ {n : Nat} {l : List PyData}, (∀ x, x ∈ l → Ex zs n x) → ∀ y, y ∈ lvls n l → Ex zs n y
  | 0, l, h, y, hy => by
    simp only [lvls, List.not_mem_nil] at hy
  | n + 1, l, h, y, hy => by
    rw [lvls] at hy
    rcases List.mem_append.mp hy with hy | hy
    · exact h y hy
    · exact (lvls_ex (down_ex h) y hy).mono (Nat.le_succ n)
theorem vars_in {zs : List Str} {n : Nat} {l : List PyData} (h : ∀ x, x ∈ l → Ex zs n x) : ∀ z, z ∈ vars l → z ∈ zs := by
  intro z hz
  obtain ⟨x, hx, e⟩ := List.mem_filterMap.mp hz
  obtain ⟨w, fs, rest, rfl, _, _⟩ := (h x hx).form
  by_cases hw : w = "var"
  · subst hw
    obtain ⟨z', hz', rfl⟩ := (h _ hx).var
    unfold varName at e
    simp only [if_pos] at e
    exact Option.some.inj e ▸ hz'
  · rw [varName_no hw] at e
    cases e
theorem nodup_le : ∀ {l m : List Str}, l.Nodup → (∀ z, z ∈ l → z ∈ m) → l.length ≤ m.length
  | [], _, _, _ => Nat.zero_le _
  | a :: l, m, h, s => by
    obtain ⟨h1, h2⟩ := List.nodup_cons.mp h
    have ha := s a List.mem_cons_self
    have := nodup_le (m := m.erase a) h2 fun z hz => by
      have hne : z ≠ a := fun e => h1 (e ▸ hz)
      exact (List.mem_erase_of_ne hne).mpr (s z (List.mem_cons_of_mem _ hz))
    rw [List.length_erase_of_mem ha] at this
    have pos : 0 < m.length := List.length_pos_of_mem ha
    rw [List.length_cons]
    omega
section
variable {P : Program} {w : World} {K : PySem.W.Frag} {mg : Str → Option Value} {base : Heap}
abbrev s_variables_of : Stmt := topS 12
abbrev N_vars : List Str := ["expression", "part"]
theorem sc_variables_of : FnScope N_vars ["expression"] (defScope s_variables_of) := ⟨rfl, rfl, rfl, by decide +kernel, rfl, by decide +kernel, by decide +kernel⟩
def sp_variables_of (K : PySem.W.Frag) : Sp := fun vs H Q _ => ∃ (v : V) (x : PyData) (zs : List Str) (n : Nat), vs = [v] ∧ Dp K H v x ∧ Ex zs n x ∧ (flatP n x).length ≤ 2100000 ∧ zs.length ≤ 60 ∧
  ∀ H' p ys, Same H H' → H p = none → H' p = some (.tup (ys.map V.str)) → ys.Nodup → sortedS ys = true → (∀ z, z ∈ ys ↔ z ∈ vars (lvls n [x])) → Q (.ref p) H'
theorem ok_variables_of {f fc : Addr} {fd fdc : FuncData} {k : Nat} (F : Fun K "variables_of" "variables_of" s_variables_of f fd) (Gc : FnOk P w K mg base CX0 k fc fdc ["expression"] (sp_all_parts K)) (gc : mg "all_parts" = some (.ref fc)) (Kc : PySem.W.keepIn K (.ref fc) = true) (bc : Binds K fdc ["expression"] [])
    (msorted : mg "sorted" = none) (mtuple : mg "tuple" = none) : FnOk P w K mg base CX0 (k + 1) f fd ["expression"] (sp_variables_of K) := by
  have nd := sc_variables_of.nd
  refine F.ok sc_variables_of (fun vs H Q E h => ?_) (fun cdv A outer s H vs Q E hr h => ?_)
  · obtain ⟨v, x, zs, n, rfl, _⟩ := h
    rfl
  obtain ⟨v, x, zs, n, rfl, hd, he, hb, hz, q⟩ := h
  refine ⟨_, (pss_one (ps_ret (pe_callTy call_tuple_of (by rfl) mtuple boot_tuple (pa_cons (pe_callB (cr_sortedSS rfl) (by rfl) msorted boot_sorted (pa_cons (pe_scS (own := [("part", 1)]) rfl nd (pi_list (pe_call Gc hr (by rfl) gc Kc bc .nil pass0 (pa_cons (pv 0) pa_nil))) (blkOk_by (N := N_vars) (sc := defScope s_variables_of) (by decide +kernel))
      (fun _ _ _ _ _ => (pg_name (i := 1) nd rfl (Or.inl rfl)))
      (tt := tTest (tOp rEq (tOp (rIxT K) (tVar 1) (tC (.int 0))) (tC (.str "var")))) (fun _ _ _ _ _ => pts_one (pt_cmpR op_eq (pe_ix ix_tup (pv 1) pe_int (fun _ _ => rfl)) pe_str (nomark _)))
      (te := tOp (rIxT K) (tVar 1) (tC (.int 1))) (fun _ _ _ _ _ => (pe_ix ix_tup (pv 1) pe_int (fun _ _ => rfl)))) pa_nil)) pa_nil)))), ?_⟩
  refine ⟨v, rfl, v, x, zs, n, rfl, hd, he, hb, fun H1 p us s1 np hp hu => ⟨p, rfl, ⟨us, .inl (.inl hp)⟩, fun D nD => ?_⟩⟩
  have hx1 : ∀ y, y ∈ [x] → Ex zs n y := fun y hy => by
    rw [List.mem_singleton.mp hy]
    exact he
  have hE := lvls_ex hx1
  have lu := dpAll_len hu
  have npD := ne_of_none hp nD
  have hvz := vars_in hE
  refine walk_body (xs := us) (fun i H' => ∃ l, H' D = some (SetSO w D l) ∧ l.Nodup ∧ (∀ z, z ∈ l ↔ z ∈ vars ((lvls n [x]).take i)) ∧ Same H1 H') ?_ ?_ ?_ ?_
  · refine ⟨[], upd_same, .nil, fun z => ?_, same_upd nD⟩
    rw [List.take_zero]
    exact Iff.rfl
  · rintro i H' _ ⟨l, hl, hn, hm, kk⟩
    exact .inl (.inl (kk _ _ hp))
  · rintro i y H' hy ⟨l, hl, hn, hm, kk⟩
    obtain ⟨d, hdi, hyd⟩ := dpAll_at hu hy
    have ex := hE d (List.mem_of_getElem? hdi)
    have hyd2 := ex.kept (KeepT.of kk) hyd
    have vt := vars_take hdi
    obtain ⟨wd, fs, rest, rfl, _, _⟩ := ex.form
    cases hyd2 with
    | tup hS hA =>
    cases hA with
    | cons hw hA =>
    cases hw
    rename_i a vs
    refine ⟨rfl, .ref a, rfl, a, _, 0, .str wd, rfl, rfl, hS, at0, rfl, _, rfl, ite2 (fun e1 => ?_) (fun e1 => ?_)⟩
    · have e1 : wd = "var" := by simpa using e1
      subst e1
      obtain ⟨z, hzz, rfl⟩ := ex.var
      cases hA with
      | cons hw hA =>
      cases hw
      refine ⟨.ref a, rfl, a, _, 1, .str z, rfl, rfl, hS, at1, z, l, rfl, hl, ?_, put z l, upd_same, put_nodup hn, fun z' => ?_, fun b o e => ?_⟩
      · have := nodup_le (m := zs) hn fun z' hz' => hvz z' (by
          have h1 := (hm z').mp hz'
          obtain ⟨y, hy, e⟩ := List.mem_filterMap.mp h1
          exact List.mem_filterMap.mpr ⟨y, List.mem_of_mem_take hy, e⟩)
        show _ < 4096
        omega
      · rw [mem_put, vt, List.mem_append, hm z']
        have : (varName (.tuple [.str "var", .str z])).toList = [z] := by
          unfold varName
          simp
        rw [this, List.mem_singleton]
        exact Or.comm
      · rw [upd_ne (ne_of_none e nD)]
        exact kk _ _ e
    · have e1 : wd ≠ "var" := fun z => e1 (by simpa using z)
      refine ⟨l, hl, hn, fun z => ?_, kk⟩
      rw [vt, varName_no e1, hm z]
      simp
  · rintro H' ⟨l, hl, hn, hm, kk⟩
    rw [lu, List.take_length] at hm
    have h6 := nodup_le (m := zs) hn fun z' hz' => hvz z' ((hm z').mp hz')
    refine ⟨D, l, rfl, hl, by omega, fun ys r hperm hsrt nr => ?_⟩
    have sr := same_upd (o := .lst (ys.map V.str)) nr
    refine ⟨r, ys.map V.str, rfl, .inl ⟨.inl (.inl upd_same), fun t nt => ?_⟩⟩
    have st := same_upd (o := .tup (ys.map V.str)) nt
    refine q _ t ys (s1.trans (kk.trans (sr.trans st))) ((s1.trans (kk.trans sr)).free nt) upd_same (hperm.nodup_iff.mpr hn) hsrt fun z => ?_
    rw [hperm.mem_iff]
    exact hm z
end
end L20

namespace L20
open PySem PySem.Spec PyProof.Rows L2 GR WX TX
def sp_test (K : PySem.W.Frag) (f : Nat → PyData → Bool) : Sp := fun vs H Q _ => ∃ (v : V) (x : PyData) (zs : List Str) (n : Nat), vs = [v] ∧ Dp K H v x ∧ Ex zs n x ∧ (flatP n x).length ≤ 2100000 ∧ n ≤ 30 ∧ zs.length ≤ 60 ∧ (∀ z, z ∈ zs → PyData.strOk z = true) ∧ ∀ H', Same H H' → Q (.bl (f n x)) H'
/-- the word at the head -/
def headW : PyData → Str
  | .tuple (.str w :: _) => w
  | _ => Str.empty
abbrev W1 : List Str := ["free"]
/-- what is contained and free -/
def kidsF : PyData → List PyData
  | .tuple (.str w :: rest) => pick W1 (fieldsOf w) rest
  | _ => []
theorem kidsF_of {w : Str} {fs : List Str} {rest : List PyData} (ht : (w, fs) ∈ table) : kidsF (.tuple (.str w :: rest)) = pick W1 fs rest := by
  show pick W1 (fieldsOf w) rest = _
  rw [show fieldsOf w = fs from fieldsOf_table (w, fs) ht]
theorem pick_sub : ∀ (fs : List Str) (ds : List PyData), (pick W1 fs ds).Sublist (pick W2 fs ds)
  | f :: fs, d :: ds => by
    simp only [pick]
    refine List.Sublist.append ?_ (pick_sub fs ds)
    by_cases h1 : f = "extra"
    · rw [if_pos h1, if_pos h1]
      exact List.Sublist.refl _
    · rw [if_neg h1, if_neg h1]
      by_cases h2 : f ∈ W1
      · have h3 : f ∈ W2 := by
          rw [List.mem_singleton.mp h2]
          decide
        rw [if_pos h2, if_pos h3]
        exact List.Sublist.refl _
      · rw [if_neg h2]
        exact List.nil_sublist _
  | [], _ => by simp only [pick]; exact List.Sublist.refl _
  | _ :: _, [] => by simp only [pick]; exact List.Sublist.refl _
theorem kidsF_sub (x : PyData) : (kidsF x).Sublist (kids x) := by
  unfold kidsF kids
  split
  · exact pick_sub _ _
  · exact List.nil_sublist _
def freeKey : Nat → PyData → Bool
  | 0, _ => false
  | n + 1, x => decide (headW x = "key") || (kidsF x).any (freeKey n)
theorem any_congr {α : Type} {f g : α → Bool} : ∀ {l : List α}, (∀ x, x ∈ l → f x = g x) → l.any f = l.any g
  | [], _ => rfl
  | x :: l, h => by
    rw [List.any_cons, List.any_cons, h x List.mem_cons_self, any_congr fun y hy => h y (List.mem_cons_of_mem _ hy)]
theorem Ex.kidsF {zs : List Str} {n : Nat} {x : PyData} (h : Ex zs (n + 1) x) : ∀ y, y ∈ kidsF x → Ex zs n y := fun y hy => h.kids.1 y ((kidsF_sub x).subset hy)
theorem free_stable {zs : List Str} : ∀ {m k : Nat} {x : PyData}, Ex zs m x → m ≤ k → freeKey k x = freeKey m x
  | 0, _, _, h, _ => by cases h
  | m + 1, 0, _, _, hk => by omega
  | m + 1, k + 1, x, h, hk => by
    simp only [freeKey]
    rw [any_congr fun y hy => free_stable (h.kidsF y hy) (by omega : m ≤ k)]
theorem flatMap_congr {α β : Type} {f g : α → List β} : ∀ {l : List α}, (∀ x, x ∈ l → f x = g x) → l.flatMap f = l.flatMap g
  | [], _ => rfl
  | x :: l, h => by
    rw [List.flatMap_cons, List.flatMap_cons, h x List.mem_cons_self, flatMap_congr fun y hy => h y (List.mem_cons_of_mem _ hy)]
theorem flatP_stable {zs : List Str} : ∀ {m k : Nat} {x : PyData}, Ex zs m x → m ≤ k → flatP k x = flatP m x
  | 0, _, _, h, _ => by cases h
  | m + 1, 0, _, _, hk => by omega
  | m + 1, k + 1, x, h, hk => by
    simp only [flatP]
    rw [flatMap_congr fun y hy => flatP_stable (h.kids.1 y hy) (by omega : m ≤ k)]
/-- how many parts the parts of a list have -/
def szL (n : Nat) (l : List PyData) : Nat := (l.map fun y => (flatP n y).length).sum
theorem szL_append (n : Nat) (a b : List PyData) : szL n (a ++ b) = szL n a + szL n b := by
  unfold szL
  rw [List.map_append, List.sum_append]
theorem szL_cons (n : Nat) (x : PyData) (l : List PyData) : szL n (x :: l) = (flatP n x).length + szL n l := by
  unfold szL
  rw [List.map_cons, List.sum_cons]
theorem szL_sub {n : Nat} {a b : List PyData} (h : a.Sublist b) : szL n a ≤ szL n b := by
  induction h with
  | slnil => exact Nat.le_refl _
  | cons x _ ih =>
    rw [szL_cons]
    omega
  | cons_cons x _ ih =>
    rw [szL_cons, szL_cons]
    omega
theorem szL_kids {zs : List Str} {n : Nat} {x : PyData} (h : Ex zs n x) : szL n (kids x) + 1 = (flatP n x).length := by
  cases n with
  | zero => cases h
  | succ n =>
    have : szL (n + 1) (kids x) = ((kids x).flatMap (flatP n)).length := by
      unfold szL
      rw [List.length_flatMap]
      congr 1
      refine List.map_congr_left fun y hy => ?_
      rw [flatP_stable (h.kids.1 y hy) (Nat.le_succ n)]
    rw [this]
    simp only [flatP, List.length_cons]
theorem szL_len {zs : List Str} {n : Nat} {l : List PyData} (h : ∀ x, x ∈ l → Ex zs n x) : l.length ≤ szL n l := by
  induction l with
  | nil => exact Nat.zero_le _
  | cons x l ih =>
    have h1 := szL_kids (h x List.mem_cons_self)
    have h2 := ih fun y hy => h y (List.mem_cons_of_mem _ hy)
    rw [szL_cons, List.length_cons]
    omega
theorem dpAll_split {K : PySem.W.Frag} {H : Hp} : ∀ {a b : List V} {ds : List PyData}, DpAll K H (a ++ b) ds → ∃ d1 d2, ds = d1 ++ d2 ∧ DpAll K H a d1 ∧ DpAll K H b d2
  | [], b, ds, h => ⟨[], ds, rfl, .nil, h⟩
  | v :: a, b, ds, h => by
    cases h with
    | cons h1 h2 =>
    obtain ⟨d1, d2, rfl, g1, g2⟩ := dpAll_split h2
    exact ⟨_ :: d1, d2, rfl, .cons h1 g1, g2⟩
theorem dpAll_last {K : PySem.W.Frag} {H : Hp} {us : List V} {xs : List PyData} (h : DpAll K H us xs) (hne : us ≠ []) : ∃ y d xs', xs = xs' ++ [d] ∧ us[us.length - 1]? = some y ∧ DpAll K H us.dropLast xs' ∧ Dp K H y d := by
  have e := List.dropLast_concat_getLast hne
  rw [← e] at h
  obtain ⟨d1, d2, rfl, g1, g2⟩ := dpAll_split h
  cases g2 with
  | cons g3 g4 =>
  cases g4
  refine ⟨us.getLast hne, _, d1, rfl, ?_, g1, g3⟩
  rw [← List.getLast?_eq_getElem?, List.getLast?_eq_getLast hne]
section
variable {P : Program} {w : World} {K : PySem.W.Frag} {mg : Str → Option Value} {base : Heap}
abbrev s_contained_free : Stmt := topS 6
theorem sc_contained_free : FnScope ["expression"] ["expression"] (defScope s_contained_free) := ⟨rfl, rfl, rfl, by decide +kernel, rfl, by decide +kernel, by decide +kernel⟩
def sp_contained_free (K : PySem.W.Frag) : Sp := fun vs H Q _ => ∃ (v : V) (x : PyData) (zs : List Str) (n : Nat), vs = [v] ∧ Dp K H v x ∧ Ex zs (n + 1) x ∧ ∀ H' p us, Same H H' → H p = none → H' p = some (.lst us) → DpAll K H' us (kidsF x) → Q (.ref p) H'
theorem ok_contained_free {f fc : Addr} {fd fdc : FuncData} {k : Nat} (F : Fun K "contained_free" "contained_free" s_contained_free f fd) (Gc : FnOk P w K mg base CX0 k fc fdc ["expression", "wanted"] (sp_contained_of K)) (gc : mg "contained_of" = some (.ref fc)) (Kc : PySem.W.keepIn K (.ref fc) = true) (bc : Binds K fdc ["expression", "wanted"] []) :
    FnOk P w K mg base CX0 (k + 1) f fd ["expression"] (sp_contained_free K) := by
  have nd := sc_contained_free.nd
  refine F.ok sc_contained_free (fun vs H Q E h => ?_) (fun cdv A outer s H vs Q E hr h => ?_)
  · obtain ⟨v, x, zs, n, rfl, _⟩ := h
    rfl
  obtain ⟨v, x, zs, n, rfl, hd, he, q⟩ := h
  refine ⟨_, (pss_one (ps_ret (pe_call Gc hr (by rfl) gc Kc bc .nil pass0 (pa_cons (pv 0) (pa_cons (pe_tup (pa_cons pe_str pa_nil)) pa_nil))))), ?_⟩
  obtain ⟨wd, fs, rest, rfl, ht, hfit⟩ := he.form
  have hk := kidsF_of (rest := rest) ht
  have hkl := (kidsF_sub (.tuple (.str wd :: rest))).length_le
  have hkl2 := he.kids.2
  have hfl := he.flat
  cases hd with
  | tup hS hA =>
  rename_i a vs
  refine ⟨.ref a, rfl, Nat.le_trans (show 1 ≤ 2 by decide) le2, fun t nt => ?_⟩
  have st := same_upd (o := .tup [.str "free"]) nt
  refine ⟨a, t, wd, fs, W1, rest, rfl, dp_keep (KeepT.of st) _ _ hfl (.tup hS hA), ht, hfit, ?_, ?_, .inl (.inl upd_same), fun H' p us s1 np hp hu => ?_⟩
  · rw [flatD, flatDs, Bool.and_eq_true] at hfl
    exact hfl.2
  · rw [← hk]
    omega
  · rw [← hk] at hu
    exact q H' p us (st.trans s1) (st.free np) hp hu
end
end L20

namespace L20
open PySem PySem.Spec PyProof.Rows L2 GR WX TX
section
variable {P : Program} {w : World} {K : PySem.W.Frag} {mg : Str → Option Value} {base : Heap}
abbrev s_has_free_key : Stmt := topS 10
theorem sc_has_free_key : FnScope ["expression", "todo", "part"] ["expression"] (defScope s_has_free_key) := ⟨rfl, rfl, rfl, by decide +kernel, rfl, by decide +kernel, by decide +kernel⟩
/-- what is still to do: the list at td -/
def FInv (K : PySem.W.Frag) (zs : List Str) (n : Nat) (x : PyData) (v : V) (td : Addr) (H0 : Hp) (m : Nat) (σ : L2.St) (H : Hp) : Prop :=
  ∃ (z : Option V) (us : List V) (xs : List PyData), σ = [some v, some (.ref td), z] ∧ H td = some (.lst us) ∧ DpAll K H us xs ∧ (∀ y, y ∈ xs → Ex zs n y) ∧ m = szL n xs ∧ m ≤ 2100000 ∧ freeKey n x = xs.any (freeKey n) ∧ (∀ b o, b ≠ td → H0 b = some o → H b = some o)
theorem ok_has_free_key {f fc : Addr} {fd fdc : FuncData} {k : Nat} (F : Fun K "has_free_key" "has_free_key" s_has_free_key f fd) (Gc : FnOk P w K mg base CX0 k fc fdc ["expression"] (sp_contained_free K)) (gc : mg "contained_free" = some (.ref fc)) (Kc : PySem.W.keepIn K (.ref fc) = true) (bc : Binds K fdc ["expression"] []) :
    FnOk P w K mg base CX0 (k + 1) f fd ["expression"] (sp_test K freeKey) := by
  have nd := sc_has_free_key.nd
  refine F.ok sc_has_free_key (fun vs H Q E h => ?_) (fun cdv A outer s H vs Q E hr h => ?_)
  · obtain ⟨v, x, zs, n, rfl, _⟩ := h
    rfl
  obtain ⟨v, x, zs, n, rfl, hd, he, hb, hn, h60, hz, q⟩ := h
  refine ⟨_, (pss_cons (ps_set (i := 1) nd rfl (.inl rfl) (pe_lst (pa_cons (pv 0) pa_nil)))
      (pss_cons (ps_while PassesOwn.never (pt_truth (pv 1) (fun _ => rfl))
      (pss_cons (ps_set (i := 2) nd rfl (.inl rfl) (pe_bm0 PySem.F.plainAttrs_list PySem.F.slot_list_pop PySem.F.type_list_pop mt_pop (pv 1)))
        (pss_cons (ps_if (pt_cmpR op_eq (pe_ix ix_tup (pv 2) pe_int (fun _ _ => rfl)) pe_str (nomark _))
        (pss_one (ps_ret pe_bl))
        pss_nil)
        (pss_one (ps_expr (pe_bm PySem.F.plainAttrs_list PySem.F.slot_list_extend PySem.F.type_list_extend mt_extend (pv 1) (pa_cons (pe_call Gc hr (by rfl) gc Kc bc .nil pass0 (pa_cons (pv 2) pa_nil)) pa_nil)))))))
      (pss_one (ps_ret pe_bl)))), ?_⟩
  refine ⟨v, rfl, small_le (show 1 ≤ 1000 by decide), fun td ntd => ?_⟩
  have sl := same_upd (o := .lst [v]) ntd
  have hsz : szL n [x] ≤ 2100000 := by
    have := flatP_len he
    rw [szL_cons]
    show _ + 0 ≤ _
    omega
  refine ⟨FInv K zs n x v td H, ⟨szL n [x], none, [v], [x], rfl, upd_same, .cons (he.kept (KeepT.of sl) hd) .nil, ?_, rfl, hsz, ?_, fun b o _ e => sl _ _ e⟩, ?_⟩
  · intro y hy
    rw [List.mem_singleton.mp hy]
    exact he
  · rw [List.any_cons, List.any_nil, Bool.or_false]
  · rintro m σ H' ⟨z, us, xs, rfl, hu, hA, hE, rfl, hm, hf, kk⟩
    have lu := dpAll_len hA
    have fin : ∀ H2, (∀ b o, b ≠ td → H' b = some o → H2 b = some o) → Same H H2 := fun H2 s2 b o e => s2 _ _ (ne_of_none e ntd) (kk _ _ (ne_of_none e ntd) e)
    refine ⟨.ref td, rfl, !us.isEmpty, .inl ⟨us, .inl (.inl hu), rfl⟩, ?_⟩
    cases hus : us with
    | nil =>
      subst hus
      cases hA
      rw [List.any_nil] at hf
      refine iteF ?_
      have := q H' (fin H' fun b o _ e => e)
      rw [hf] at this
      exact this
    | cons u0 ur =>
      have hne : us ≠ [] := by
        rw [hus]
        exact List.cons_ne_nil _ _
      rw [← hus]
      have full : (!us.isEmpty) = true := by
        rw [hus]
        rfl
      rw [full]
      obtain ⟨y, d, xs', rfl, hy, hA', hyd⟩ := dpAll_last hA hne
      have ed := hE d (List.mem_append_right _ (List.mem_singleton.mpr rfl))
      have hE' : ∀ y, y ∈ xs' → Ex zs n y := fun y hy => hE y (List.mem_append_left _ hy)
      obtain ⟨n', rfl⟩ : ∃ n', n = n' + 1 := by
        cases n with
        | zero => cases ed
        | succ n' => exact ⟨n', rfl⟩
      have hsd := szL_kids ed
      have hs1 : szL (n' + 1) (xs' ++ [d]) = szL (n' + 1) xs' + (flatP (n' + 1) d).length := by
        rw [szL_append, szL_cons]
        rfl
      have hsub := szL_sub (n := n' + 1) (kidsF_sub d)
      have hlx := szL_len hE'
      have hlk : (kidsF d).length ≤ szL (n' + 1) (kidsF d) := szL_len fun y hy => (ed.kidsF y hy).mono (Nat.le_succ n')
      refine iteT ⟨fun σ' H'' => ∃ m', m' < szL (n' + 1) (xs' ++ [d]) ∧ FInv K zs (n' + 1) x v td H m' σ' H'', fun σ' H'' h => h, ?_⟩
      refine ⟨.ref td, rfl, .inl ⟨rfl, _, .inl (.inl hu)⟩, td, us, y, rfl, rfl, hu, hy, ?_⟩
      have k1 : KeepT H' (upd H' td (.lst us.dropLast)) := KeepT.lst hu
      have hu1 : upd H' td (.lst us.dropLast) td = some (.lst us.dropLast) := upd_same
      have keep1 : ∀ b o, b ≠ td → H' b = some o → upd H' td (.lst us.dropLast) b = some o := fun b o hb e => by
        rw [upd_ne hb]
        exact e
      have fx' := flat_all hE'
      have hA1 := dp_keepAll k1 _ _ fx' hA'
      have hyd1 := ed.kept k1 hyd
      revert k1 hu1 keep1 hA1 hyd1
      generalize upd H' td (.lst us.dropLast) = H1
      intro k1 hu1 keep1 hA1 hyd1
      obtain ⟨wd, fs, rest, hdd, hft, hff⟩ := ed.form
      have hhead : headW d = wd := by
        rw [hdd]
        rfl
      have hyd2 := hyd1
      rw [hdd] at hyd2
      cases hyd2 with
      | tup hS hB =>
      cases hB with
      | cons hw hB =>
      cases hw
      rename_i a vs
      have hfd : freeKey (n' + 1) d = (decide (wd = "key") || (kidsF d).any (freeKey n')) := by
        simp only [freeKey, hhead]
      have hany : (kidsF d).any (freeKey n') = (kidsF d).any (freeKey (n' + 1)) := any_congr fun y hy => (free_stable (ed.kidsF y hy) (Nat.le_succ n')).symm
      rw [List.any_append, List.any_cons, List.any_nil, Bool.or_false, hfd] at hf
      refine ⟨.ref a, rfl, a, _, 0, .str wd, rfl, rfl, hS, at0, rfl, _, rfl, ite2 (fun e1 => ?_) (fun e1 => ?_)⟩
      · have e1 : wd = "key" := by simpa using e1
        have := q H1 (fin H1 keep1)
        rw [hf, decide_eq_true e1, Bool.true_or, Bool.or_true] at this
        exact this
      · have e1 : wd ≠ "key" := fun z => e1 (by simpa using z)
        rw [decide_eq_false e1, Bool.false_or, hany, ← List.any_append] at hf
        refine ⟨.ref td, rfl, .inl ⟨rfl, _, .inl (.inl hu1)⟩, .ref a, rfl, .ref a, d, zs, n', rfl, hyd1, ed, fun H2 p us2 s2 np hp hu2 => ?_⟩
        have htd2 := s2 _ _ hu1
        have l1 := dpAll_len hA1
        have l2 := dpAll_len hu2
        have k2 : KeepT H2 (upd H2 td (.lst (us.dropLast ++ us2))) := KeepT.lst htd2
        refine ⟨td, p, us.dropLast, us2, rfl, rfl, htd2, hp, ?_, szL (n' + 1) (xs' ++ kidsF d), ?_, some (.ref a), us.dropLast ++ us2, xs' ++ kidsF d, rfl, upd_same, ?_, ?_, rfl, ?_, hf, fun b o hb e => ?_⟩
        · rw [l1, l2, sizeLine_eq]
          omega
        · rw [szL_append]
          omega
        · exact dpAll_append (dp_keepAll ((KeepT.of s2).trans k2) _ _ fx' hA1) (dp_keepAll k2 _ _ (flat_all ed.kidsF) hu2)
        · intro y hy
          rcases List.mem_append.mp hy with hy | hy
          · exact hE' y hy
          · exact (ed.kidsF y hy).mono (Nat.le_succ n')
        · rw [szL_append]
          omega
        · rw [upd_ne hb]
          exact s2 _ _ (keep1 _ _ hb (kk _ _ hb e))
end
end L20

namespace L20
open PySem PySem.Spec PyProof.Rows L2 GR WX TX
def closedE (n : Nat) (x : PyData) : Bool := (vars (lvls n [x])).isEmpty && !freeKey n x
section
variable {P : Program} {w : World} {K : PySem.W.Frag} {mg : Str → Option Value} {base : Heap}
abbrev s_is_closed : Stmt := topS 11
theorem sc_is_closed : FnScope ["expression"] ["expression"] (defScope s_is_closed) := ⟨rfl, rfl, rfl, by decide +kernel, rfl, by decide +kernel, by decide +kernel⟩
theorem ok_is_closed {f fc ff : Addr} {fd fdc fdf : FuncData} {k : Nat} (F : Fun K "is_closed" "is_closed" s_is_closed f fd) (Gc : FnOk P w K mg base CX0 k fc fdc ["expression"] (sp_variables_of K)) (gc : mg "variables_of" = some (.ref fc)) (Kc : PySem.W.keepIn K (.ref fc) = true) (bc : Binds K fdc ["expression"] [])
    (Gf : FnOk P w K mg base CX0 k ff fdf ["expression"] (sp_test K freeKey)) (gf : mg "has_free_key" = some (.ref ff)) (Kf : PySem.W.keepIn K (.ref ff) = true) (bf : Binds K fdf ["expression"] []) : FnOk P w K mg base CX0 (k + 1) f fd ["expression"] (sp_test K closedE) := by
  have nd := sc_is_closed.nd
  refine F.ok sc_is_closed (fun vs H Q E h => ?_) (fun cdv A outer s H vs Q E hr h => ?_)
  · obtain ⟨v, x, zs, n, rfl, _⟩ := h
    rfl
  obtain ⟨v, x, zs, n, rfl, hd, he, hb, hn, h60, hz, q⟩ := h
  refine ⟨_, (pss_one (ps_ret (pe_and (pe_notT (pe_call Gc hr (by rfl) gc Kc bc .nil pass0 (pa_cons (pv 0) pa_nil))) (pe_one (pe_not (pe_call Gf hr (by rfl) gf Kf bf .nil pass0 (pa_cons (pv 0) pa_nil))))))), ?_⟩
  refine ⟨v, rfl, v, x, zs, n, rfl, hd, he, hb, h60, fun H1 p ys s1 np hp hnd hst hm => ⟨!(ys.map V.str).isEmpty, .inr (.inl ⟨_, .inl (.inl hp), rfl⟩), _, rfl, ?_⟩⟩
  have ev : (!(!(ys.map V.str).isEmpty)) = (vars (lvls n [x])).isEmpty := by
    rw [Bool.not_not]
    cases hv : vars (lvls n [x]) with
    | nil =>
      rw [hv] at hm
      cases ys with
      | nil => rfl
      | cons y ys => exact absurd ((hm y).mp List.mem_cons_self) (List.not_mem_nil)
    | cons z zs' =>
      rw [hv] at hm
      cases ys with
      | nil => exact absurd ((hm z).mpr List.mem_cons_self) (List.not_mem_nil)
      | cons y ys => rfl
  rw [ev]
  cases hc : (vars (lvls n [x])).isEmpty with
  | false =>
    have := q H1 s1
    unfold closedE at this
    rw [hc] at this
    exact iteF this
  | true =>
    refine iteT ⟨v, rfl, v, x, zs, n, rfl, he.kept (KeepT.of s1) hd, he, hb, hn, h60, hz, fun H2 s2 => ⟨_, rfl, ?_⟩⟩
    have := q H2 (s1.trans s2)
    unfold closedE at this
    rw [hc, Bool.true_and] at this
    exact this
end
end L20

namespace L20
open PySem PySem.Spec PyProof.Rows L2 GR
theorem aggk_aggs {o : Str} {a b : Nat} (h : (o, a, b) ∈ aggk) : (o, a + b + 2) ∈ aggs ∧ a + b ≤ 2 := by
  simp only [aggk, List.mem_cons, List.not_mem_nil, or_false, Prod.mk.injEq] at h
  rcases h with ⟨rfl, rfl, rfl⟩ | ⟨rfl, rfl, rfl⟩ | ⟨rfl, rfl, rfl⟩ | ⟨rfl, rfl, rfl⟩ <;> exact ⟨by decide, by decide⟩
theorem ex_row {zs : List Str} {t : Str} {n : Nat} (hi : ("in" : Str) ∈ zs) (ht : t ∈ zs) (hn : 2 ≤ n) : Ex zs n (rowX t) := by
  obtain ⟨k, rfl⟩ : ∃ k, n = k + 2 := ⟨n - 2, by omega⟩
  exact .cell (k + 1) t "in" _ ht hi (.leaf k _ .key)
theorem Cx.ex {zs sc : List Str} {b : Bool} {n : Nat} {x : PyData} (hi : ("in" : Str) ∈ zs) (h : Cx zs sc b n x) : Ex (zs ++ sc) n x := by
  have l : ∀ {z : Str}, z ∈ zs → z ∈ zs ++ sc := fun h => List.mem_append_left _ h
  induction h with
  | int b n i h1 h2 => exact .leaf n _ (.int i h1 h2)
  | let_ b n i g9 h1 h2 => exact .leaf n _ (.let_ i h1 h2)
  | key n => exact .leaf n _ .key
  | var b n z h1 => exact .leaf n _ (.var z (List.mem_append_right _ h1))
  | cell b n t v x h1 h2 _ ih => exact .cell n t v x (l h1) (l h2) ih
  | op b n o x y h1 _ _ ih1 ih2 =>
    refine .op n o x y ?_ ih1 ih2
    simp only [ops5, List.mem_cons, List.not_mem_nil, or_false] at h1
    rcases h1 with rfl | rfl | rfl | rfl | rfl <;> decide
  | at_ b n x y _ _ ih1 ih2 => exact .op n "at" x y (by decide) ih1 ih2
  | iff b n x y z _ _ _ ih1 ih2 ih3 => exact .iff n x y z ih1 ih2 ih3
  | agg b n o t p xs vs ds h0 h1 h2 h3 _ _ _ _ ih1 ih2 ih3 ih4 =>
    refine .agg n o t xs (rowX t :: p :: (vs ++ ds)) ?_ (l h2) h3 (fun x hx => (ih1 x hx).mono (by omega)) fun y hy => ?_
    · rw [List.length_cons, List.length_cons, List.length_append]
      exact (aggk_aggs h1).1
    · rcases List.mem_cons.mp hy with rfl | hy
      · exact ex_row (l hi) (l h2) h0
      rcases List.mem_cons.mp hy with rfl | hy
      · exact ih2
      rcases List.mem_append.mp hy with hy | hy
      · exact ih3 y hy
      · exact ih4 y hy
/-- what it contains is of the same kind -/
theorem Cx.kids {zs sc : List Str} {b : Bool} {n : Nat} {x : PyData} (hi : ("in" : Str) ∈ zs) (h : Cx zs sc b (n + 1) x) : ∀ y, y ∈ kids x → ∃ b', Cx zs sc b' n y := by
  cases h with
  | int b n i h1 h2 => rw [kids_leaf (zs := zs) (.int i h1 h2)]; exact fun y hy => (nomatch hy)
  | let_ b n i g9 h1 h2 => rw [kids_leaf (zs := zs) (.let_ i h1 h2)]; exact fun y hy => (nomatch hy)
  | key n => rw [kids_leaf (zs := zs) .key]; exact fun y hy => (nomatch hy)
  | var b n z h1 => rw [kids_leaf (zs := sc) (.var z h1)]; exact fun y hy => (nomatch hy)
  | cell b n t v x h1 h2 h3 => rw [kids_cell]; exact fun y hy => by rw [List.mem_singleton.mp hy]; exact ⟨b, h3⟩
  | op b n o x y h1 h2 h3 =>
    rw [kids_op (by simp only [ops5, List.mem_cons, List.not_mem_nil, or_false] at h1; rcases h1 with rfl | rfl | rfl | rfl | rfl <;> decide)]
    intro z hz
    simp only [List.mem_cons, List.not_mem_nil, or_false] at hz
    rcases hz with rfl | rfl
    · exact ⟨b, h2⟩
    · exact ⟨b, h3⟩
  | at_ b n x y h2 h3 =>
    rw [kids_op (by decide)]
    intro z hz
    simp only [List.mem_cons, List.not_mem_nil, or_false] at hz
    rcases hz with rfl | rfl
    · exact ⟨b, h2⟩
    · exact ⟨true, h3⟩
  | iff b n x y z h1 h2 h3 =>
    rw [kids_if]
    intro u hu
    simp only [List.mem_cons, List.not_mem_nil, or_false] at hu
    rcases hu with rfl | rfl | rfl
    · exact ⟨b, h1⟩
    · exact ⟨b, h2⟩
    · exact ⟨b, h3⟩
  | agg b n o t p xs vs ds h0 h1 h2 h3 h4 h5 h6 h7 =>
    rw [kids_agg (by rw [List.length_cons, List.length_cons, List.length_append]; exact (aggk_aggs h1).1)]
    intro y hy
    rcases List.mem_append.mp hy with hy | hy
    · exact ⟨b, (h4 y hy).mono (by omega)⟩
    rcases List.mem_cons.mp hy with rfl | hy
    · obtain ⟨k, rfl⟩ : ∃ k, n = k + 2 := ⟨n - 2, by omega⟩
      exact ⟨true, .cell true (k + 1) t "in" _ h2 hi (.key k)⟩
    rcases List.mem_cons.mp hy with rfl | hy
    · exact ⟨true, h5⟩
    rcases List.mem_append.mp hy with hy | hy
    · exact ⟨true, h6 y hy⟩
    · exact ⟨b, h7 y hy⟩
/-- all its parts are -/
theorem Cx.parts {zs sc : List Str} (hi : ("in" : Str) ∈ zs) : ∀ {n : Nat} {b : Bool} {x : PyData}, Cx zs sc b n x → ∀ y, y ∈ flatP n x → ∃ b' m, Cx zs sc b' m y
  | 0, b, x, h, y, hy => by cases h
  | n + 1, b, x, h, y, hy => by
    rw [flatP] at hy
    rcases List.mem_cons.mp hy with rfl | hy
    · exact ⟨b, n + 1, h⟩
    · obtain ⟨k, hk, hy⟩ := List.mem_flatMap.mp hy
      obtain ⟨b', hb⟩ := h.kids hi k hk
      exact Cx.parts hi hb y hy
theorem lvls_mem {n : Nat} {x y : PyData} : y ∈ lvls n [x] ↔ y ∈ flatP n x := by
  have := (lvls_perm n [x]).mem_iff (a := y)
  rw [this, List.flatMap_cons, List.flatMap_nil, List.append_nil]
theorem Cx.novar {zs : List Str} {b : Bool} {m : Nat} {x : PyData} (h : Cx zs [] b m x) : varName x = none := by
  cases h with
  | var b n z h1 => exact (nomatch h1)
  | op b n o x y h1 _ _ =>
    refine varName_no ?_
    simp only [ops5, List.mem_cons, List.not_mem_nil, or_false] at h1
    rcases h1 with rfl | rfl | rfl | rfl | rfl <;> decide
  | agg b n o t p xs vs ds h0 h1 h2 h3 h4 h5 h6 h7 =>
    refine varName_no ?_
    simp only [aggk, List.mem_cons, List.not_mem_nil, or_false, Prod.mk.injEq] at h1
    rcases h1 with ⟨rfl, _⟩ | ⟨rfl, _⟩ | ⟨rfl, _⟩ | ⟨rfl, _⟩ <;> decide
  | _ => exact varName_no (by decide)
theorem Cx.novars {zs : List Str} {b : Bool} {n : Nat} {x : PyData} (hi : ("in" : Str) ∈ zs) (h : Cx zs [] b n x) : vars (lvls n [x]) = [] := by
  unfold vars
  rw [List.filterMap_eq_nil_iff]
  intro y hy
  obtain ⟨b', m, hm⟩ := h.parts hi y (lvls_mem.mp hy)
  exact hm.novar
theorem q_no {W : List Str} {f : Str} {d : PyData} {fs : List Str} {ds : List PyData} (h : f ≠ "extra") (h2 : f ∉ W) : pick W (f :: fs) (d :: ds) = pick W fs ds := by
  simp only [pick, if_neg h, if_neg h2, List.nil_append]
theorem q_yes {W : List Str} {f : Str} {d : PyData} {fs : List Str} {ds : List PyData} (h : f ≠ "extra") (h2 : f ∈ W) : pick W (f :: fs) (d :: ds) = d :: pick W fs ds := by
  simp only [pick, if_neg h, if_pos h2, List.cons_append, List.nil_append]
theorem q_ex {W : List Str} {xs : List PyData} {fs : List Str} {ds : List PyData} : pick W ("extra" :: fs) (.tuple xs :: ds) = xs ++ pick W fs ds := by
  simp only [pick, if_pos, items]
theorem q_nil {W : List Str} : pick W [] [] = [] := rfl
theorem head_no {o : Str} {ds : List PyData} (h : o ≠ "key") : decide (headW (.tuple (.str o :: ds)) = "key") = false := by
  refine decide_eq_false ?_
  exact h
theorem Cx.nokey {zs sc : List Str} : ∀ {n : Nat} {x : PyData}, Cx zs sc false n x → freeKey n x = false
  | 0, x, h => by cases h
  | n + 1, x, h => by
    rw [freeKey, Bool.or_eq_false_iff]
    cases h with
    | int b n i h1 h2 => exact ⟨head_no (by decide), by rw [kidsF_of (fs := ["value"]) (by decide), q_no (by decide) (by decide), q_nil]; rfl⟩
    | let_ b n i g9 h1 h2 => exact ⟨head_no (by decide), by rw [kidsF_of (fs := ["position"]) (by decide), q_no (by decide) (by decide), q_nil]; rfl⟩
    | var b n z h1 => exact ⟨head_no (by decide), by rw [kidsF_of (fs := ["name"]) (by decide), q_no (by decide) (by decide), q_nil]; rfl⟩
    | cell b n t v x h1 h2 h3 => exact ⟨head_no (by decide), by rw [kidsF_of (fs := ["name", "free", "name"]) (by decide), q_no (by decide) (by decide), q_yes (by decide) (by decide), q_no (by decide) (by decide), q_nil, List.any_cons, h3.nokey]; rfl⟩
    | op b n o x y h1 h2 h3 =>
      have e : kidsF (.tuple [.str o, x, y]) = [x, y] := by
        simp only [ops5, List.mem_cons, List.not_mem_nil, or_false] at h1
        rcases h1 with rfl | rfl | rfl | rfl | rfl <;> rw [kidsF_of (fs := ["free", "free"]) (by decide), q_yes (by decide) (by decide), q_yes (by decide) (by decide), q_nil]
      rw [e, List.any_cons, List.any_cons, h2.nokey, h3.nokey]
      refine ⟨?_, rfl⟩
      simp only [ops5, List.mem_cons, List.not_mem_nil, or_false] at h1
      rcases h1 with rfl | rfl | rfl | rfl | rfl <;> exact head_no (by decide)
    | at_ b n x y h2 h3 => exact ⟨head_no (by decide), by rw [kidsF_of (fs := ["free", "bound"]) (by decide), q_yes (by decide) (by decide), q_no (by decide) (by decide), q_nil, List.any_cons, h2.nokey]; rfl⟩
    | iff b n x y z h1 h2 h3 => exact ⟨head_no (by decide), by rw [kidsF_of (fs := ["free", "free", "free"]) (by decide), q_yes (by decide) (by decide), q_yes (by decide) (by decide), q_yes (by decide) (by decide), q_nil, List.any_cons, List.any_cons, List.any_cons, h1.nokey, h2.nokey, h3.nokey]; rfl⟩
    | agg b n o t p xs vs ds h0 h1 h2 h3 h4 h5 h6 h7 =>
      have e : kidsF (.tuple (.str o :: .str t :: .tuple xs :: rowX t :: p :: (vs ++ ds))) = xs ++ ds := by
        simp only [aggk, List.mem_cons, List.not_mem_nil, or_false, Prod.mk.injEq] at h1
        rcases h1 with ⟨rfl, hv, hd⟩ | ⟨rfl, hv, hd⟩ | ⟨rfl, hv, hd⟩ | ⟨rfl, hv, hd⟩
        · rw [List.eq_nil_of_length_eq_zero hv, List.eq_nil_of_length_eq_zero hd]
          rw [kidsF_of (fs := ["name", "extra", "bound", "bound"]) (by decide), q_no (by decide) (by decide), q_ex, q_no (by decide) (by decide), List.nil_append, q_no (by decide) (by decide), q_nil]
        · obtain ⟨v, rfl⟩ := List.length_eq_one_iff.mp hv
          rw [List.eq_nil_of_length_eq_zero hd]
          rw [kidsF_of (fs := ["name", "extra", "bound", "bound", "bound"]) (by decide), q_no (by decide) (by decide), q_ex, q_no (by decide) (by decide), List.append_nil, q_no (by decide) (by decide), q_no (by decide) (by decide), q_nil]
        · obtain ⟨v, rfl⟩ := List.length_eq_one_iff.mp hv
          obtain ⟨d, rfl⟩ := List.length_eq_one_iff.mp hd
          rw [kidsF_of (fs := ["name", "extra", "bound", "bound", "bound", "free"]) (by decide), q_no (by decide) (by decide), q_ex, q_no (by decide) (by decide), List.cons_append, List.nil_append, q_no (by decide) (by decide), q_no (by decide) (by decide), q_yes (by decide) (by decide), q_nil]
        · rw [List.eq_nil_of_length_eq_zero hv]
          obtain ⟨d, rfl⟩ := List.length_eq_one_iff.mp hd
          rw [kidsF_of (fs := ["name", "extra", "bound", "bound", "free"]) (by decide), q_no (by decide) (by decide), q_ex, q_no (by decide) (by decide), List.nil_append, q_no (by decide) (by decide), q_yes (by decide) (by decide), q_nil]
      rw [e, List.any_eq_false]
      refine ⟨?_, fun y hy => ?_⟩
      · simp only [aggk, List.mem_cons, List.not_mem_nil, or_false, Prod.mk.injEq] at h1
        rcases h1 with ⟨rfl, _⟩ | ⟨rfl, _⟩ | ⟨rfl, _⟩ | ⟨rfl, _⟩ <;> exact head_no (by decide)
      · rcases List.mem_append.mp hy with hy | hy
        · rw [((h4 y hy).mono (show 1 ≤ n by omega)).nokey]; exact Bool.false_ne_true
        · rw [(h7 y hy).nokey]; exact Bool.false_ne_true
theorem Cx.closed {zs : List Str} {n : Nat} {x : PyData} (hi : ("in" : Str) ∈ zs) (h : Cx zs [] false n x) : closedE n x = true := by
  unfold closedE
  rw [h.novars hi, h.nokey]
  rfl
end L20

namespace L20
open PySem PySem.Spec PyProof.Rows L2 GR WX
/-! ### what a statement writes to -/
section
variable {P : Program} {w : World} {K : PySem.W.Frag} {mg : Str → Option Value} {base : Heap}
abbrev s_column_of : Stmt := topS 15
theorem sc_column_of : FnScope ["statement"] ["statement"] (defScope s_column_of) := ⟨rfl, rfl, rfl, by decide +kernel, rfl, by decide +kernel, by decide +kernel⟩
def colP : Option (Str × Str) → PyData
  | some (t, z) => .tuple [.str t, .str z]
  | none => .none
def sp_col (K : PySem.W.Frag) : Sp := fun vs H Q _ => ∃ (v : V) (x : PyData), vs = [v] ∧ SV K H v x ∧ ∀ H' u, Same H H' → Dp K H' u (colP (colD x)) → Q u H'
theorem ok_column_of {f : Addr} {fd : FuncData} {k : Nat} (F : Fun K "column_of" "column_of" s_column_of f fd) : FnOk P w K mg base CX0 (k + 1) f fd ["statement"] (sp_col K) := by
  have nd := sc_column_of.nd
  refine F.ok sc_column_of (fun vs H Q E h => ?_) (fun cdv A outer s H vs Q E hr h => ?_)
  · obtain ⟨v, x, rfl, _⟩ := h
    rfl
  obtain ⟨v, x, rfl, ⟨p, wd, v1, vs, rfl, h1, h2, _⟩, q⟩ := h
  refine ⟨_, (pss_cons (ps_if (pt_cmpR op_in_seq (pe_ix ix_tup (pv 0) pe_int (fun _ _ => rfl)) (pe_tup (pa_cons pe_str (pa_cons pe_str pa_nil))) (by rfl))
      (pss_one (ps_ret (pe_tup (pa_cons (pe_ix ix_tup (pv 0) pe_int (fun _ _ => rfl)) (pa_cons (pe_ix ix_tup (pv 0) pe_int (fun _ _ => rfl)) pa_nil)))))
      pss_nil)
      (pss_one (ps_ret pe_non))), ?_⟩
  refine ⟨.ref p, rfl, p, _, 0, .str wd, rfl, rfl, .inl (.inl h1), atI_nat (j := 0) rfl, h1000 (show 2 ≤ 1000 by decide), fun a na => ?_⟩
  have sa := same_upd (o := .tup [.str "put", .str "each"]) na
  refine ⟨a, _, rfl, .inr (.inl (.inl upd_same)), rfl, rfl, _, rfl, ?_⟩
  have ev : inV (.str wd) [.str "put", .str "each"] = decide (wd = "put" ∨ wd = "each") := by
    refine (wanted_in wd ["put", "each"]).trans (decide_eq_decide.mpr ?_)
    simp only [List.mem_cons, List.not_mem_nil, or_false]
  show if inV (.str wd) [.str "put", .str "each"] = true then _ else _
  rw [ev]
  rcases h2 with ⟨rfl, _, hc, _⟩ | ⟨hw, _, hc, _⟩ | ⟨hw, _, t, e, z, g, rfl, rfl, hc, _⟩
  · rw [decide_eq_false (by decide)]
    refine iteF (q _ _ sa ?_)
    rw [hc]
    exact .non
  · rw [decide_eq_false (by rcases hw with rfl | rfl <;> decide)]
    refine iteF (q _ _ sa ?_)
    rw [hc]
    exact .non
  · rw [decide_eq_true hw]
    have h1a := sa _ _ h1
    refine iteT ⟨.ref p, rfl, p, _, 1, .str t, rfl, rfl, .inl (.inl h1a), atI_nat (j := 1) rfl, .ref p, rfl, p, _, 3, .str z, rfl, rfl, .inl (.inl h1a), atI_nat (j := 3) rfl, h1000 (show 2 ≤ 1000 by decide), fun b nb => ?_⟩
    have sb := same_upd (o := .tup [.str t, .str z]) nb
    refine q _ _ (sa.trans sb) ?_
    rw [hc]
    exact .tup (.inl (.inl upd_same)) (.cons (.str _) (.cons (.str _) .nil))
abbrev s_writers : Stmt := topS 16
abbrev N_wr : List Str := ["log", "table", "column", "position", "place", "statement"]
theorem sc_writers : FnScope N_wr ["log", "table", "column", "position"] (defScope s_writers) := ⟨rfl, rfl, rfl, by decide +kernel, rfl, by decide +kernel, by decide +kernel⟩
/-- the places before n where a statement writes to t and c -/
def wOf (t c : Str) (n : Int) (es : List En) : List Int := (es.filter fun e => decide (e.1 < n) && decide (colD e.2.2 = some (t, c))).map (·.1)
theorem wOf_append (t c : Str) (n : Int) (a b : List En) : wOf t c n (a ++ b) = wOf t c n a ++ wOf t c n b := by
  unfold wOf
  rw [List.filter_append, List.map_append]
theorem wOf_one (t c : Str) (n : Int) (e : En) : wOf t c n [e] = if decide (e.1 < n) && decide (colD e.2.2 = some (t, c)) then [e.1] else [] := by
  unfold wOf
  rw [List.filter_cons, List.filter_nil]
  split <;> rfl
theorem wOf_len (t c : Str) (n : Int) (es : List En) : (wOf t c n es).length ≤ es.length := by
  unfold wOf
  rw [List.length_map]
  exact List.length_filter_le _ _
theorem colP_eqv {o : Option (Str × Str)} {t c : Str} : PyData.eqv (colP o) (.tuple [.str t, .str c]) = decide (o = some (t, c)) := by
  cases o with
  | none => rfl
  | some q =>
    obtain ⟨a, b⟩ := q
    rw [Bool.eq_iff_iff, decide_eq_true_eq]
    simp only [colP, PyData.eqv, PyData.eqvAll, Bool.and_true, Bool.and_eq_true, beq_iff_eq, Option.some.injEq, Prod.mk.injEq]
theorem colP_shaped {o : Option (Str × Str)} (h : ∀ t z, o = some (t, z) → PyData.strOk t = true ∧ PyData.strOk z = true) : SeqAt.shaped (colP o) = true := by
  cases o with
  | none => rfl
  | some q =>
    obtain ⟨a, b⟩ := q
    obtain ⟨h1, h2⟩ := h a b rfl
    unfold SeqAt.shaped
    rw [Bool.and_eq_true]
    refine ⟨by simp only [colP, PyData.canLay0, PyData.canLayAll0, h1, h2, Bool.and_self], decide_eq_true ?_⟩
    simp only [colP, PyData.depth, PyData.depthAll]
    omega
theorem sv_names {K : PySem.W.Frag} {H : Hp} {v : V} {x : PyData} (h : SV K H v x) : ∀ t z, colD x = some (t, z) → PyData.strOk t = true ∧ PyData.strOk z = true := by
  obtain ⟨p, wd, v1, vs, rfl, h1, h2, _⟩ := h
  intro t z e
  rcases h2 with ⟨_, _, hc, _⟩ | ⟨_, _, hc, _⟩ | ⟨_, _, t', e', z', g, _, _, hc, n1, n2⟩
  · rw [hc] at e; cases e
  · rw [hc] at e; cases e
  · rw [hc] at e
    cases e
    exact ⟨nm_ok n1, nm_ok n2⟩
def sp_writers (K : PySem.W.Frag) : Sp := fun vs H Q _ => ∃ (p : Addr) (t c : Str) (n : Int) (ms : List Int) (es : List En), vs = [.ref p, .str t, .str c, .int n] ∧ Lg K H p ms es ∧ es.length ≤ 24 ∧ PyData.strOk t = true ∧ PyData.strOk c = true ∧
  ∀ H' a, Same H H' → H' a = some (.tup ((wOf t c n es).map V.int)) → Q (.ref a) H'
theorem ok_writers {f fc : Addr} {fd dc : FuncData} {k : Nat} (F : Fun K "writers" "writers" s_writers f fd) (G : FnOk P w K mg base CX0 k fc dc ["statement"] (sp_col K)) (g : mg "column_of" = some (.ref fc)) (Kf : PySem.W.keepIn K (.ref fc) = true) (b : Binds K dc ["statement"] [])
    (mtuple : mg "tuple" = none) : FnOk P w K mg base CX0 (k + 1) f fd ["log", "table", "column", "position"] (sp_writers K) := by
  have nd := sc_writers.nd
  refine F.ok sc_writers (fun vs H Q E h => ?_) (fun cdv A outer s H vs Q E hr h => ?_)
  · obtain ⟨p, t, c, n, ms, es, rfl, _⟩ := h
    rfl
  obtain ⟨p, t, c, n, ms, es, rfl, L, hes, ht, hc, q⟩ := h
  refine ⟨_, (pss_one (ps_ret (pe_callTy call_tuple_of (by rfl) mtuple boot_tuple (pa_cons (pe_lc (own := [("place", 4), ("statement", 5)]) (g := gTup K 2 (gCons (gName 4) (gCons (gName 5) gNil)))
      (tt := tAnd (tTest (tOp (rI0 fun i j => .bl (decide (i < j))) (tVar 4) (tVar 3))) (tTest (tOp (rEqD K) (tCall (sp_col K) [] E0 (tCons (tVar 5) tNil)) (tTup (tCons (tVar 1) (tCons (tVar 2) tNil)))))) (te := tVar 4)
      rfl nd (pi_tup (pe_ix ix_tup (pv 0) pe_int (fun _ _ => rfl))) (blkOk_by (N := N_wr) (sc := defScope s_writers) (by decide +kernel))
      (fun _ _ _ _ _ => (pg_tup rfl (pgs_cons (pg_name (i := 4) (x := "place") nd rfl (Or.inl rfl)) (pgs_cons (pg_name (i := 5) (x := "statement") nd rfl (Or.inl rfl)) pgs_nil))))
      (fun _ _ _ _ _ => pts_one (PW.pt (pw_and (pt_cmpR op_lt (pv 4) (pv 3) (nomark _)) (pw_and1 (pt_cmpR (op_eqD hr.units) (pe_call G hr (by rfl) g Kf b .nil pass0 (pa_cons (pv 5) pa_nil)) (pe_tup (pa_cons (pv 1) (pa_cons (pv 2) pa_nil))) (nomark _))))))
      (fun _ _ _ _ _ => (pv 4))) pa_nil)))), ?_⟩
  obtain ⟨mp, ep, rs, h1, h2, h3, h4⟩ := id L
  have hl := ens_len h4
  refine ⟨.ref p, rfl, p, _, 1, .ref ep, rfl, rfl, .inl (.inl h1), rfl, ep, rfl, ⟨_, .inl h3⟩, fun D nD => ?_⟩
  refine lc_tup (xs := rs.map V.ref) (fun i H' => H' D = some (.lst ((wOf t c n (es.take i)).map V.int)) ∧ ∀ b o, b ≠ D → H b = some o → H' b = some o) ?_ ?_ ?_ ?_
  · exact ⟨upd_same, fun b o nb e => by rw [upd_ne nb]; exact e⟩
  · rintro i H' _ ⟨_, kp⟩
    exact .inl (rd_keep h3 (KeepT.of (show Same H H' from fun b o e => kp b o (ne_of_none e nD) e)))
  · rintro i x H' hx ⟨hD, kp⟩
    rw [List.getElem?_map] at hx
    obtain ⟨r, hr', rfl⟩ := Option.map_eq_some_iff.mp hx
    obtain ⟨e, he, h5⟩ := ens_at h4 hr'
    have sm : Same H H' := fun b o e => kp b o (ne_of_none e nD) e
    have h6 := h5.keep (KeepT.of sm)
    have hls := wOf_append t c n (es.take i) [e]
    rw [← take_next he, wOf_one] at hls
    have hlen : (wOf t c n (es.take i)).length ≤ 24 := Nat.le_trans (wOf_len _ _ _ _) (by rw [List.length_take]; omega)
    refine ⟨r, _, rfl, .inl (.inl h6.1), rfl, _, _, rfl, _, _, rfl, rfl, rfl, .int e.1, rfl, .int n, rfl, e.1, n, rfl, rfl, _, rfl, ?_⟩
    by_cases c1 : e.1 < n
    · rw [decide_eq_true c1, Bool.true_and] at hls
      rw [decide_eq_true c1]
      refine iteT ⟨e.2.1, rfl, e.2.1, e.2.2, rfl, h6.2, fun H2 u s2 hu => ⟨.str t, rfl, .str c, rfl, h1000 (show 2 ≤ 1000 by decide), fun l nl => ?_⟩⟩
      have sl := same_upd (o := .tup [.str t, .str c]) nl
      have hD2 := sl _ _ (s2 _ _ hD)
      have kp2 : ∀ b o, b ≠ D → H b = some o → upd H2 l (.tup [.str t, .str c]) b = some o := fun b o nb e => sl _ _ (s2 _ _ (kp b o nb e))
      refine ⟨colP (colD e.2.2), .tuple [.str t, .str c], dp_keep (KeepT.of sl) _ _ (by cases colD e.2.2 with | none => rfl | some q => rfl) hu, .tup (.inl (.inl upd_same)) (.cons (.str _) (.cons (.str _) .nil)), colP_shaped (sv_names h6.2), colP_shaped (o := some (t, c)) (fun t' z' e' => by cases e'; exact ⟨ht, hc⟩), ?_⟩
      rw [colP_eqv]
      refine ⟨_, rfl, ?_⟩
      by_cases c2 : colD e.2.2 = some (t, c)
      · rw [decide_eq_true c2] at hls
        rw [decide_eq_true c2]
        refine iteT ⟨.int e.1, rfl, _, hD2, small1000 (by rw [List.length_map]; omega), ?_, fun b o nb e' => by rw [upd_ne nb]; exact kp2 b o nb e'⟩
        rw [hls, if_pos rfl, List.map_append]
        exact upd_same
      · rw [decide_eq_false c2] at hls
        rw [decide_eq_false c2]
        refine iteF ⟨?_, kp2⟩
        rw [hls, if_neg Bool.false_ne_true, List.append_nil]
        exact hD2
    · rw [decide_eq_false c1, Bool.false_and] at hls
      rw [decide_eq_false c1]
      refine iteF ⟨?_, kp⟩
      rw [hls, if_neg Bool.false_ne_true, List.append_nil]
      exact hD
  · rintro H1 ⟨hD, kp⟩
    rw [List.length_map, hl, List.take_length] at hD
    have sm1 : Same H H1 := fun b o e => kp b o (ne_of_none e nD) e
    refine ⟨D, _, rfl, .inl ⟨.inl (.inl hD), fun a na => ?_⟩⟩
    have sa := same_upd (o := .tup ((wOf t c n es).map V.int)) na
    exact q _ a (sm1.trans sa) upd_same
end
end L20

/-! Data of all kinds, dicts too, in the abstract heap; ok tells which addresses its lists and dicts may have. -/
namespace AD
open PySem PySem.Spec PyProof.Rows L2 GR
def keyD : Key → PyData
  | .inl i => .int i
  | .inr x => .str x
mutual
inductive Dd (K : PySem.W.Frag) (ok : Addr → Prop) (H : Hp) : V → PyData → Prop
  | non : Dd K ok H .non .none
  | bl (b : Bool) : Dd K ok H (.bl b) (.bool b)
  | int (i : Int) : Dd K ok H (.int i) (.int i)
  | str (x : Str) : Dd K ok H (.str x) (.str x)
  | lst {a : Addr} {xs : List V} {ds : List PyData} : H a = some (.lst xs) → ok a → DdAll K ok H xs ds → Dd K ok H (.ref a) (.list ds)
  | tup {a : Addr} {xs : List V} {ds : List PyData} : SqT K H a xs → DdAll K ok H xs ds → Dd K ok H (.ref a) (.tuple ds)
  | dk {a : Addr} {kvs : List (Key × V)} {ds : List PyData} : H a = some (.dK kvs) → ok a → DdAll K ok H (kvs.map (·.2)) ds → Dd K ok H (.ref a) (.dict ((kvs.map fun p => keyD p.1).zip ds))
inductive DdAll (K : PySem.W.Frag) (ok : Addr → Prop) (H : Hp) : List V → List PyData → Prop
  | nil : DdAll K ok H [] []
  | cons {v : V} {vs : List V} {d : PyData} {ds : List PyData} : Dd K ok H v d → DdAll K ok H vs ds → DdAll K ok H (v :: vs) (d :: ds)
end
/-- tuples stay, and what lies where ok allows it -/
structure KeepO (ok : Addr → Prop) (H H' : Hp) : Prop where
  tup : ∀ b xs, H b = some (.tup xs) → H' b = some (.tup xs)
  frz : ∀ b o xs, H b = some (.frz o (.tup xs)) → H' b = some (.frz o (.tup xs))
  oth : ∀ b o, ok b → H b = some o → H' b = some o
theorem KeepO.of {ok : Addr → Prop} {H H' : Hp} (s : Same H H') : KeepO ok H H' := ⟨fun b _ e => s b _ e, fun b _ _ e => s b _ e, fun b _ _ e => s b _ e⟩
theorem KeepO.trans {ok : Addr → Prop} {H H1 H2 : Hp} (a : KeepO ok H H1) (b : KeepO ok H1 H2) : KeepO ok H H2 := ⟨fun x _ e => b.tup x _ (a.tup x _ e), fun x _ _ e => b.frz x _ _ (a.frz x _ _ e), fun x o h e => b.oth x o h (a.oth x o h e)⟩
theorem KeepO.seqt {ok : Addr → Prop} {K : PySem.W.Frag} {H H' : Hp} (s : KeepO ok H H') {a : Addr} {xs : List V} (h : SqT K H a xs) : SqT K H' a xs := by
  rcases h with (h | ⟨o, h⟩) | h
  · exact .inl (.inl (s.tup _ _ h))
  · exact .inl (.inr ⟨o, s.frz _ _ _ h⟩)
  · exact .inr h
section
variable {K : PySem.W.Frag} {ok ok' : Addr → Prop} {H H' : Hp}
mutual
theorem Dd.keep (k : KeepO ok H H') : ∀ {v : V} {d : PyData}, Dd K ok H v d → Dd K ok H' v d
  | _, _, .non => .non
  | _, _, .bl b => .bl b
  | _, _, .int i => .int i
  | _, _, .str x => .str x
  | _, _, .lst h o q => .lst (k.oth _ _ o h) o (DdAll.keep k q)
  | _, _, .tup h q => .tup (k.seqt h) (DdAll.keep k q)
  | _, _, .dk h o q => .dk (k.oth _ _ o h) o (DdAll.keep k q)
theorem DdAll.keep (k : KeepO ok H H') : ∀ {vs : List V} {ds : List PyData}, DdAll K ok H vs ds → DdAll K ok H' vs ds
  | _, _, .nil => .nil
  | _, _, .cons h q => .cons (Dd.keep k h) (DdAll.keep k q)
end
mutual
theorem Dd.mono (k : ∀ a, ok a → ok' a) : ∀ {v : V} {d : PyData}, Dd K ok H v d → Dd K ok' H v d
  | _, _, .non => .non
  | _, _, .bl b => .bl b
  | _, _, .int i => .int i
  | _, _, .str x => .str x
  | _, _, .lst h o q => .lst h (k _ o) (DdAll.mono k q)
  | _, _, .tup h q => .tup h (DdAll.mono k q)
  | _, _, .dk h o q => .dk h (k _ o) (DdAll.mono k q)
theorem DdAll.mono (k : ∀ a, ok a → ok' a) : ∀ {vs : List V} {ds : List PyData}, DdAll K ok H vs ds → DdAll K ok' H vs ds
  | _, _, .nil => .nil
  | _, _, .cons h q => .cons (Dd.mono k h) (DdAll.mono k q)
end
theorem DdAll.len : ∀ {vs : List V} {ds : List PyData}, DdAll K ok H vs ds → vs.length = ds.length
  | _, _, .nil => rfl
  | _, _, .cons _ q => by rw [List.length_cons, List.length_cons, DdAll.len q]
end
/-- the entries of a dict, its keys read -/
theorem keys_read {P : Program} {w : World} {h : Heap} {es : List DictEntry} {vs : List (Key × Value)} (p : PySem.Pairs (mixKind P w) es vs) : ReadsAll h (es.map (·.key)) (vs.map fun q => keyD q.1) [] := by
  induction p with
  | nil => exact .nil
  | @cons e kv es kvs h1 _ _ ih =>
    rw [List.map_cons, List.map_cons]
    rcases keyIs_shape h1 with ⟨i, t, e1, e2⟩ | ⟨x, t, e1, e2⟩
    · rw [e1, e2]
      exact .cons (.int i t) ih
    · rw [e1, e2]
      exact .cons (.str x t) ih
theorem pairs_val {P : Program} {w : World} {es : List DictEntry} {vs : List (Key × Value)} (p : PySem.Pairs (mixKind P w) es vs) : es.map (·.val) = vs.map (·.2) := by
  induction p with
  | nil => rfl
  | cons _ h2 _ ih => rw [List.map_cons, List.map_cons, h2, ih]
theorem kv_keys {kvs : List (Key × V)} {vs : List (Key × Value)} (r : KV kvs vs) : vs.map (fun q => keyD q.1) = kvs.map fun q => keyD q.1 := by
  induction r with
  | nil => rfl
  | cons h _ ih => rw [List.map_cons, List.map_cons, ih, h.1]
theorem kv_vals {kvs : List (Key × V)} {vs : List (Key × Value)} (r : KV kvs vs) : Vals (kvs.map (·.2)) (vs.map (·.2)) := by
  induction r with
  | nil => exact .nil
  | cons h _ ih => exact .cons h.2 ih
section
variable {X : Cx} {pins : List (Addr × Obj)} {σ : L2.St} {H : Hp} {s : Shared} {ok : Addr → Prop}
mutual
theorem Dd.reads (I : Inv X pins σ H s) (hok : ∀ a, ok a → a ≠ sysModules) : ∀ {v : V} {d : PyData}, Dd X.K ok H v d → ∀ u, RelV v u → ∃ as, Reads s.heap u d as ∧ sysModules ∉ as
  | _, _, .non, _, r => by
    cases r
    exact ⟨_, .none, List.not_mem_nil⟩
  | _, _, .bl b, _, r => by
    cases r
    exact ⟨_, .bool b, List.not_mem_nil⟩
  | _, _, .int i, _, r => by
    obtain ⟨t, rfl⟩ := r
    exact ⟨_, .int i t, List.not_mem_nil⟩
  | _, _, .str x, _, r => by
    obtain ⟨t, rfl⟩ := r
    exact ⟨_, .str x t, List.not_mem_nil⟩
  | _, _, .lst hs o q, _, r => by
    cases r
    obtain ⟨its, rv, ⟨ob, n, ho, hc, _, hd⟩, _⟩ := I.list (.inl (.inl hs))
    obtain ⟨as, hr, hn⟩ := DdAll.reads I hok q its rv
    exact ⟨_, .list ho hc hd hr, fun z => (List.mem_cons.mp z).elim (fun e => hok _ o e.symm) hn⟩
  | _, _, .tup hs q, _, r => by
    cases r
    obtain ⟨its, rv, ⟨ob, ho, hc, n, hd⟩, _⟩ := I.tuple hs
    obtain ⟨as, hr, hn⟩ := DdAll.reads I hok q its rv
    exact ⟨_, .tuple ho hc hd hr, hn⟩
  | _, _, .dk (kvs := kvs) (ds := ds) hs o q, _, r => by
    cases r
    obtain ⟨_, hsys, vs, rk, ob, es, ep, ho, hex, hd, _, hp, _⟩ := I.hok _ _ hs
    obtain ⟨as, hr, hn⟩ := DdAll.reads I hok q _ (kv_vals rk)
    have hk := keys_read (h := s.heap) hp
    have hv := pairs_val hp
    have hl := q.len
    rw [List.length_map] at hl
    rw [kv_keys rk] at hk
    rw [← hv] at hr
    refine ⟨_, .dict (kvs := (kvs.map fun p => keyD p.1).zip ds) ho hex.1 hd (as := []) (bs := as) ?_ ?_, fun z => ?_⟩
    · rw [List.map_fst_zip (by rw [List.length_map]; omega)]
      exact hk
    · rw [List.map_snd_zip (by rw [List.length_map]; omega)]
      exact hr
    · rcases List.mem_append.mp z with z | z
      · exact hok _ o (List.mem_singleton.mp z).symm
      · exact hn z
theorem DdAll.reads (I : Inv X pins σ H s) (hok : ∀ a, ok a → a ≠ sysModules) : ∀ {vs : List V} {ds : List PyData}, DdAll X.K ok H vs ds → ∀ us, Vals vs us → ∃ as, ReadsAll s.heap us ds as ∧ sysModules ∉ as
  | _, _, .nil, _, r => by
    cases r
    exact ⟨_, .nil, List.not_mem_nil⟩
  | _, _, .cons h q, _, r => by
    cases r with
    | cons r1 r2 =>
      obtain ⟨as, q1, n1⟩ := Dd.reads I hok h _ r1
      obtain ⟨bs, q2, n2⟩ := DdAll.reads I hok q _ r2
      exact ⟨_, .cons q1 q2, fun z => (List.mem_append.mp z).elim n1 n2⟩
end
/-- what is shown fits -/
structure Shw (d : PyData) : Prop where
  shw : d.showable = true
  dep : d.depth ≤ 60
  len : d.shown.length ≤ sizeLine
/-- repr of anything -/
def rReprA (X : Cx) : List V → Hp → VK → Prop := fun xs H Q => ∃ (v : V) (d : PyData) (ok : Addr → Prop), xs = [v] ∧ (∀ a, ok a → a ≠ sysModules) ∧ Dd X.K ok H v d ∧ Shw d ∧ Q (.str d.shown) H
theorem call_reprA {k : Nat} (hg : X.A.guards = some []) (hr : Room k X.A) : CallR X (.builtin "repr") (rReprA X) := by
  intro pins s σ H xs us Q I r h
  obtain ⟨v, d, ok, rfl, hok, hd, ⟨h1, h2, h3⟩, q⟩ := h
  obtain ⟨u, rfl, rv⟩ := vals1 r
  obtain ⟨as, hR, hn⟩ := Dd.reads I hok hd u rv
  have hu := hr.units
  have big : ∀ a, u = .ref a → wpAny (model X.prog X.w) X.A (call (.builtin "repr") [.ref a]) (EP X pins σ Q) X.xe s := fun a e => by
    rw [e] at hR
    exact repr_of_reads' hR h1 (fun _ => hn) hg (by omega) (fun _ _ e => e) (fun h' u tk hk => ⟨.str d.shown, H, I.kept hk, ⟨_, rfl⟩, q⟩) h3
  cases hd with
  | non =>
    cases rv
    rw [PyData.shown_none] at q
    exact PySem.P.repr_of_none ⟨.str _, H, I.tok _, ⟨_, rfl⟩, q⟩
  | bl b =>
    cases rv
    rw [PyData.shown_bool] at q
    exact P.repr_of_bool ⟨.str _, H, I.kept fun _ _ e => e, ⟨_, rfl⟩, q⟩
  | int i =>
    obtain ⟨t, rfl⟩ := rv
    rw [PyData.shown_int] at q
    exact PySem.P.repr_of_int (by simpa [PyData.showable] using h1) ⟨.str _, H, I.tok _, ⟨_, rfl⟩, q⟩
  | str x =>
    obtain ⟨t, rfl⟩ := rv
    rw [PyData.shown_str] at q h3
    exact P.repr_of_str ⟨.str _, H, I.tok _, ⟨_, rfl⟩, q⟩ h3
  | lst _ _ _ =>
    cases rv
    exact big _ rfl
  | tup _ _ =>
    cases rv
    exact big _ rfl
  | dk _ _ _ =>
    cases rv
    exact big _ rfl
/-- str of a list, a tuple, a dict -/
def rStrA (X : Cx) : List V → Hp → VK → Prop := fun xs H Q => ∃ (a : Addr) (d : PyData) (ok : Addr → Prop), xs = [.ref a] ∧ (∀ a, ok a → a ≠ sysModules) ∧ Dd X.K ok H (.ref a) d ∧ Shw d ∧ Q (.str d.shown) H
theorem call_strA {k : Nat} (hg : X.A.guards = some []) (hr : Room k X.A) : CallR X (.type "str") (rStrA X) := by
  intro pins s σ H xs us Q I r h
  obtain ⟨a, d, ok, rfl, hok, hd, ⟨h1, h2, h3⟩, q⟩ := h
  obtain ⟨u, rfl, rv⟩ := vals1 r
  obtain rfl : u = Value.ref a := rv
  obtain ⟨as, hR, hn⟩ := Dd.reads I hok hd _ rfl
  have hu := hr.units
  exact str_of_reads hR h1 (fun _ => hn) hg (by omega) (fun _ _ e => e) (fun h' u tk hk => ⟨.str d.shown, H, I.kept hk, ⟨_, rfl⟩, q⟩) h3
/-- the class's name -/
def tyN : PyData → String
  | .none => "NoneType"
  | .bool _ => "bool"
  | .int _ => "int"
  | .str _ => "str"
  | .list _ => "list"
  | .tuple _ => "tuple"
  | .dict _ => "dict"
theorem Dd.ty {K : PySem.W.Frag} {v : V} {d : PyData} (h : Dd K ok H v d) : TyX K H v (.type (tyN d)) := by
  cases h with
  | non => exact .base .non
  | bl b => exact .base (.bl b)
  | int i => exact .base (.int i)
  | str x => exact .base (.str x)
  | lst h _ _ => exact .base (.lst h)
  | tup h _ =>
    rcases h with (h | ⟨o, h⟩) | ⟨o, its, n, h1, h2, _⟩
    · exact .base (.tup h)
    · exact .fTuple h
    · exact .kTuple h1 h2
  | dk h _ _ => exact .base (.dK h)
/-- == of anything but dicts -/
def rEqA (X : Cx) : R2 := fun x y H Q => ∃ (d e : PyData) (ok : Addr → Prop), (∀ a, ok a → a ≠ sysModules) ∧ Dd X.K ok H x d ∧ Dd X.K ok H y e ∧ SeqAt.shaped d = true ∧ SeqAt.shaped e = true ∧ Q (.bl (PyData.eqv d e)) H
theorem op_eqA (hu : X.A.units + 64 < cLine) : OpR X (compareOp .Eq) (rEqA X) := by
  intro pins s σ H x y v u Q I rx ry h
  obtain ⟨d, e, ok, hok, hd, he, sd, se, q⟩ := h
  obtain ⟨as, r1, _⟩ := Dd.reads I hok hd v rx
  obtain ⟨bs, r2, _⟩ := Dd.reads I hok he u ry
  exact SeqAt.compareEq_shaped r1 r2 sd se hu ⟨.bl _, H, I, rfl, q⟩
/-- in, not in, of anything but dicts, in a tuple of such -/
def rInA (X : Cx) (neg : Bool) : R2 := fun x y H Q => ∃ (d : PyData) (ds : List PyData) (ok : Addr → Prop), (∀ a, ok a → a ≠ sysModules) ∧ Dd X.K ok H x d ∧ Dd X.K ok H y (.tuple ds) ∧ SeqAt.shaped d = true ∧ SeqAt.shaped (.tuple ds) = true ∧ Q (.bl (if neg then !ds.any (fun z => PyData.eqv z d) else ds.any fun z => PyData.eqv z d)) H
theorem op_inA (hu : X.A.units + 65 < cLine) : OpR X (compareOp .In) (rInA X false) := by
  intro pins s σ H x y v u Q I rx ry h
  obtain ⟨d, ds, ok, hok, hd, he, sd, se, q⟩ := h
  obtain ⟨as, r1, _⟩ := Dd.reads I hok hd v rx
  obtain ⟨bs, r2, _⟩ := Dd.reads I hok he u ry
  exact SeqAt.in_tuple_reads r2 r1 (SeqAt.canLay_of_shaped se) (SeqAt.canLay_of_shaped sd) (room_in_shaped sd hu) ⟨.bl _, H, I, rfl, q⟩
theorem op_notInA (hu : X.A.units + 65 < cLine) : OpR X (compareOp .NotIn) (rInA X true) := by
  intro pins s σ H x y v u Q I rx ry h
  obtain ⟨d, ds, ok, hok, hd, he, sd, se, q⟩ := h
  obtain ⟨as, r1, _⟩ := Dd.reads I hok hd v rx
  obtain ⟨bs, r2, _⟩ := Dd.reads I hok he u ry
  exact SeqAt.notIn_tuple_reads r2 r1 (SeqAt.canLay_of_shaped se) (SeqAt.canLay_of_shaped sd) (room_in_shaped sd hu) ⟨.bl _, H, I, rfl, q⟩
/-- [e, ..]: a new list, not where the modules are -/
def tLstS (t : TA) : TE := fun σ H Q => t σ H fun xs H1 => xs.length ≤ sizeLine ∧ ∀ p, H1 p = none → p ≠ sysModules → Q (.ref p) (upd H1 p (.lst xs))
theorem pe_lstS {es : List Expr} {pos : Pos} {t : TA} (h : PA X es t) : PE X (.List es pos) (tLstS t) := by
  constructor
  intro pins s σ H Q I hq
  refine wpAny_List_spliced (thn (h.run pos pins s σ H _ I hq) ?_)
  rintro us s1 ⟨xs, H1, I1, r, z, q⟩
  refine ⟨by rw [← r.length]; exact z, ?_⟩
  have new := I1.hok.fresh (Nat.le_refl s1.heap.objs.size)
  have far : s1.heap.objs.size ≠ sysModules := (Nat.ne_of_lt I1.big).symm
  refine ⟨.ref s1.heap.objs.size, _, I1.laid (t' := s1.toks) (o := .lst xs) (fun b u e => Heap.get?_push_of_some _ e) (Nat.le_refl _) ⟨z, us, 0, r, Heap.get?_push_size _ rfl⟩, rfl, q _ new far⟩
/-- a dict does not lie where the modules are -/
def tSys (t : TE) : TE := fun σ H Q => t σ H fun v H' => (∀ a kvs, H' a = some (.dK kvs) → a ≠ sysModules) → Q v H'
theorem pe_sys {e : Expr} {t : TE} (h : PE X e t) : PE X e (tSys t) := by
  constructor
  intro pins s σ H Q I hq
  refine thn (h.run pins s σ H _ I hq) ?_
  rintro u s1 ⟨v, H1, I1, r, q⟩
  exact ⟨v, H1, I1, r, q fun a kvs e => fun z => by
    have := (I1.hok a _ e).2.1
    rw [z] at this
    exact absurd this (by decide)⟩
end
end AD

namespace L20
open PySem PySem.Spec PyProof.Rows L2 GR WX AD
/-! ### where an expression may stand -/
/-- the place of a let that a part names -/
def posD : PyData → Int
  | .tuple [_, .int i] => i
  | _ => 0
/-- a let stands at i, before n -/
def letAt (es : List En) (n i : Int) : Bool := es.any fun e => isLet e.2.2 && decide (e.1 < n) && decide (e.1 = i)
def lsK (n : Int) (es : List En) : List (Key × V) := (es.filter fun e => isLet e.2.2 && decide (e.1 < n)).map fun e => (.inl e.1, .bl true)
def mayD (m : Nat) (es : List En) (lm n : Int) (x : PyData) : Bool := closedE m x && (decide (0 ≤ n) && decide (n ≤ lm)) && ((lvls m [x]).filter isLet).all fun y => letAt es n (posD y)
theorem lsK_append (n : Int) (a b : List En) : lsK n (a ++ b) = lsK n a ++ lsK n b := by
  unfold lsK
  rw [List.filter_append, List.map_append]
theorem lsK_one (n : Int) (e : En) : lsK n [e] = if isLet e.2.2 && decide (e.1 < n) then [(.inl e.1, .bl true)] else [] := by
  unfold lsK
  rw [List.filter_cons, List.filter_nil]
  split <;> rfl
theorem lsK_len (n : Int) (es : List En) : (lsK n es).length ≤ es.length := by
  unfold lsK
  rw [List.length_map]
  exact List.length_filter_le _ _
theorem merge_has : ∀ (more acc : List (Key × V)) (k : Key), (valV (mergeK acc more) k).isSome = ((valV acc k).isSome || more.any fun q => decide (q.1 = k))
  | [], acc, k => by rw [List.any_nil, Bool.or_false]; rfl
  | q :: more, acc, k => by
    show (valV (mergeK (putK acc q.1 q.2) more) k).isSome = _
    rw [merge_has more, List.any_cons, ← Bool.or_assoc]
    congr 1
    rw [valV_put]
    by_cases c : q.1 = k
    · rw [decide_eq_true c, Bool.or_true, if_pos c.symm]
      rfl
    · rw [decide_eq_false c, Bool.or_false, if_neg (fun z => c z.symm)]
theorem lsK_has (n i : Int) : ∀ es : List En, ((lsK n es).any fun q => decide (q.1 = .inl i)) = letAt es n i
  | [] => rfl
  | e :: es => by
    have ih := lsK_has n i es
    show ((lsK n ([e] ++ es)).any _) = ((isLet e.2.2 && decide (e.1 < n) && decide (e.1 = i)) || letAt es n i)
    rw [lsK_append, List.any_append, ih, lsK_one]
    congr 1
    cases c : isLet e.2.2 && decide (e.1 < n) with
    | true =>
      rw [if_pos rfl, List.any_cons, List.any_nil, Bool.or_false, Bool.true_and]
      exact decide_eq_decide.mpr ⟨fun h => by injection h, fun h => by show (Sum.inl e.1 : Key) = _; rw [h]⟩
    | false => rw [if_neg Bool.false_ne_true, List.any_nil, Bool.false_and]
theorem Ex.let' {zs : List Str} {n : Nat} {rest : List PyData} (h : Ex zs n (.tuple (.str "let" :: rest))) : ∃ i, rest = [.int i] := by
  generalize hx : PyData.tuple (.str "let" :: rest) = x at h
  cases h with
  | leaf n x h =>
    cases h with
    | int i _ _ => cases hx
    | let_ i _ _ =>
      cases hx
      exact ⟨i, rfl⟩
    | key => cases hx
    | var z hz => cases hx
  | cell n t v x h1 h2 h3 => cases hx
  | op n o x y h1 h2 h3 =>
    cases hx
    exact absurd h1 (by decide)
  | iff n x y z h1 h2 h3 => cases hx
  | agg n o t xs ys h1 h2 h3 h4 h5 =>
    cases hx
    simp only [aggs, List.mem_cons, List.not_mem_nil, or_false, Prod.mk.injEq] at h1
    rcases h1 with ⟨h, _⟩ | ⟨h, _⟩ | ⟨h, _⟩ | ⟨h, _⟩ <;> exact absurd h (by decide)
theorem merge_snoc (l : List (Key × V)) (x : Key × V) : mergeK [] (l ++ [x]) = putK (mergeK [] l) x.1 x.2 := by
  unfold mergeK
  rw [List.foldl_append]
  rfl
theorem merge_len (l : List (Key × V)) : (mergeK [] l).length ≤ l.length := by
  have := length_mergeK l []
  simpa using this
theorem filter_next {α : Type} {p : α → Bool} {l : List α} {i : Nat} {x : α} (h : l[i]? = some x) : (l.take (i + 1)).filter p = (l.take i).filter p ++ (if p x = true then [x] else []) := by
  rw [take_next h, List.filter_append]
  congr 1
  by_cases c : p x = true
  · rw [if_pos c, List.filter_cons, if_pos c, List.filter_nil]
  · rw [if_neg c, List.filter_cons, if_neg c, List.filter_nil]
theorem sv_let {K : PySem.W.Frag} {H : Hp} {v : V} {x : PyData} (h : SV K H v x) : ∃ (p : Addr) (w : Str) (v1 : V) (vs : List V), v = .ref p ∧ H p = some (.tup (.str w :: v1 :: vs)) ∧ isLet x = decide (w = "let") := by
  obtain ⟨p, wd, v1, vs, rfl, h1, h2, _⟩ := h
  refine ⟨p, wd, v1, vs, rfl, h1, ?_⟩
  rcases h2 with ⟨rfl, h, _⟩ | ⟨hw, h, _⟩ | ⟨hw, h, _⟩
  · rw [h]; rfl
  · rw [h, decide_eq_false (by rcases hw with rfl | rfl <;> decide)]
  · rw [h, decide_eq_false (by rcases hw with rfl | rfl <;> decide)]
section
variable {P : Program} {w : World} {K : PySem.W.Frag} {mg : Str → Option Value} {base : Heap}
abbrev s_is_integer : Stmt := topS 1
theorem sc_is_integer : FnScope ["thing"] ["thing"] (defScope s_is_integer) := ⟨rfl, rfl, rfl, by decide +kernel, rfl, by decide +kernel, by decide +kernel⟩
def sp_isint : Sp := fun vs H Q _ => ∃ i : Int, vs = [.int i] ∧ Q (.bl true) H
theorem ok_is_integer {f : Addr} {fd : FuncData} {k : Nat} (F : Fun K "is_integer" "is_integer" s_is_integer f fd) (misi : mg "isinstance" = none) (mint : mg "int" = none) (mbool : mg "bool" = none) : FnOk P w K mg base CX0 (k + 1) f fd ["thing"] sp_isint := by
  have nd := sc_is_integer.nd
  refine F.ok sc_is_integer (fun vs H Q E h => ?_) (fun cdv A outer s H vs Q E hr h => ?_)
  · obtain ⟨i, rfl, _⟩ := h
    rfl
  obtain ⟨i, rfl, q⟩ := h
  refine ⟨_, (pss_one (ps_ret (pe_and (pe_callB call_isi (by rfl) misi boot_isinstance (pa_cons (pv 0) (pa_cons (pe_bltn (v := .ty "int") (by rfl) mint boot_int rfl) pa_nil))) (pe_one (pe_not (pe_callB call_isi (by rfl) misi boot_isinstance (pa_cons (pv 0) (pa_cons (pe_bltn (v := .ty "bool") (by rfl) mbool boot_bool rfl) pa_nil)))))))), ?_⟩
  exact ⟨.int i, rfl, .int i, .ty "int", _, _, _, rfl, .ty "int", .base (.int i), kit_ty (show kitB "int" "int" = some true by decide +kernel), _, rfl, iteT ⟨.int i, rfl, .int i, .ty "bool", _, _, _, rfl, .ty "bool", .base (.int i), kit_ty (show kitB "int" "bool" = some false by decide +kernel), _, rfl, q⟩⟩
abbrev s_may_stand : Stmt := topS 14
abbrev N_ms : List Str := ["log", "expression", "position", "lets", "place", "statement", "part"]
theorem sc_may_stand : FnScope N_ms ["log", "expression", "position"] (defScope s_may_stand) := ⟨rfl, rfl, rfl, by decide +kernel, rfl, by decide +kernel, by decide +kernel⟩
def sp_may (K : PySem.W.Frag) : Sp := fun vs H Q _ => ∃ (p : Addr) (v : V) (n lm : Int) (x : PyData) (zs : List Str) (m : Nat) (ms : List Int) (es : List En), vs = [.ref p, v, .int n] ∧ Lg K H p (ms ++ [lm]) es ∧ es.length ≤ 24 ∧
  Dp K H v x ∧ Ex zs m x ∧ (flatP m x).length ≤ 2100000 ∧ m ≤ 30 ∧ zs.length ≤ 60 ∧ (∀ z, z ∈ zs → PyData.strOk z = true) ∧ ∀ H', Same H H' → Q (.bl (mayD m es lm n x)) H'
theorem ok_may_stand {f fi fc fa : Addr} {fd di dc da : FuncData} {k : Nat} (F : Fun K "may_stand" "may_stand" s_may_stand f fd)
    (Gc : FnOk P w K mg base CX0 k fc dc ["expression"] (sp_test K closedE)) (gc : mg "is_closed" = some (.ref fc)) (Kc : PySem.W.keepIn K (.ref fc) = true) (bc : Binds K dc ["expression"] [])
    (Gi : FnOk P w K mg base CX0 k fi di ["thing"] sp_isint) (gi : mg "is_integer" = some (.ref fi)) (Ki : PySem.W.keepIn K (.ref fi) = true) (bi : Binds K di ["thing"] [])
    (Ga : FnOk P w K mg base CX0 k fa da ["expression"] (sp_all_parts K)) (ga : mg "all_parts" = some (.ref fa)) (Ka : PySem.W.keepIn K (.ref fa) = true) (ba : Binds K da ["expression"] [])
    (mall : mg "all" = none) : FnOk P w K mg base CX0 (k + 1) f fd ["log", "expression", "position"] (sp_may K) := by
  have nd := sc_may_stand.nd
  refine F.ok sc_may_stand (fun vs H Q E h => ?_) (fun cdv A outer s H vs Q E hr h => ?_)
  · obtain ⟨p, v, n, lm, x, zs, m, ms, es, rfl, _⟩ := h
    rfl
  obtain ⟨p, v, n, lm, x, zs, m, ms, es, rfl, L, hes, hd, he, hb, hm, hz, hs, q⟩ := h
  have hu1 := hu_of hr
  refine ⟨_, (pss_cons (ps_if (PW.pt (pw_or (pt_not (pt_val (pe_call Gc hr (by rfl) gc Kc bc .nil pass0 (pa_cons (pv 1) pa_nil)))) (pw_or (pt_not (pt_val (pe_call Gi hr (by rfl) gi Ki bi .nil pass0 (pa_cons (pv 2) pa_nil))))
      (pw_or1 (pt_not (pt_chain op_le op_le pe_int (pv 2) (pe_ix ix_tup (pe_ix ix_tup (pv 0) pe_int (fun _ _ => rfl)) (pe_un un_neg pe_int) (fun _ _ => rfl))))))))
      (pss_one (ps_ret pe_bl))
      pss_nil)
      (pss_cons (ps_set (i := 3) nd rfl (.inr rfl) (pe_dc (own := [("place", 4), ("statement", 5)]) (g := gTup K 2 (gCons (gName 4) (gCons (gName 5) gNil)))
          (tt := tAnd (tTest (tOp rEq (tOp (rIxT K) (tVar 5) (tC (.int 0))) (tC (.str "let")))) (tTest (tOp (rI0 fun i j => .bl (decide (i < j))) (tVar 4) (tVar 2)))) (tk := tVar 4) (tv := tC (.bl true)) rfl nd (pi_tup (pe_ix ix_tup (pv 0) pe_int (fun _ _ => rfl))) (blkOk_by (N := N_ms) (sc := defScope s_may_stand) (by decide +kernel))
          (fun _ _ _ _ _ => (pg_tup rfl (pgs_cons (pg_name (i := 4) (x := "place") nd rfl (Or.inl rfl)) (pgs_cons (pg_name (i := 5) (x := "statement") nd rfl (Or.inl rfl)) pgs_nil))))
          (fun _ _ _ _ _ => pts_one (PW.pt (pw_and (pt_cmpR op_eq (pe_ix ix_tup (pv 5) pe_int (fun _ _ => rfl)) pe_str (nomark _)) (pw_and1 (pt_cmpR op_lt (pv 4) (pv 2) (nomark _))))))
          (fun _ _ _ _ _ => (pv 4)) (fun _ _ _ _ _ => pe_bl)))
      (pss_one (ps_ret (pe_callB (cr_all rfl) (by rfl) mall boot_all (pa_cons (pe_lc (own := [("part", 6)]) (tt := tTest (tOp rEq (tOp (rIxT K) (tVar 6) (tC (.int 0))) (tC (.str "let")))) (te := tDIn (tOp (rIxT K) (tVar 6) (tC (.int 1))) (tVar 3)) rfl nd
          (pi_list (pe_call Ga hr (by rfl) ga Ka ba .nil pass0 (pa_cons (pv 1) pa_nil))) (blkOk_by (N := N_ms) (sc := defScope s_may_stand) (by decide +kernel))
          (fun _ _ _ _ _ => (pg_name (i := 6) nd rfl (Or.inl rfl))) (fun _ _ _ _ _ => pts_one (pt_cmpR op_eq (pe_ix ix_tup (pv 6) pe_int (fun _ _ => rfl)) pe_str (nomark _)))
          (fun _ _ _ _ _ => pe_cmp (pc_din hu1 (pe_ix ix_tup (pv 6) pe_int (fun _ _ => rfl)) (pv 3)))) pa_nil)))))), ?_⟩
  obtain ⟨mp, ep, rs, h1, h2, h3, h4⟩ := id L
  have hl := ens_len h4
  refine ⟨v, rfl, v, x, zs, m, rfl, hd, he, hb, hm, hz, hs, fun H1 s1 => ⟨_, rfl, ?_⟩⟩
  have hfl := he.flat
  unfold mayD at q
  cases cc : closedE m x with
  | false =>
    rw [cc, Bool.false_and, Bool.false_and] at q
    exact iteT (q H1 s1)
  | true =>
  rw [cc, Bool.true_and] at q
  refine iteF ⟨.int n, rfl, n, rfl, _, rfl, iteF ⟨.int n, rfl, 0, n, rfl, rfl, _, rfl, ?_⟩⟩
  cases c0 : decide (0 ≤ n) with
  | false =>
    rw [c0, Bool.false_and, Bool.false_and] at q
    exact iteF ⟨_, rfl, iteT (q H1 s1)⟩
  | true =>
  rw [c0, Bool.true_and] at q
  refine iteT ⟨.ref p, rfl, p, _, 0, .ref mp, rfl, rfl, .inl (.inl (s1 _ _ h1)), at0, 1, rfl, mp, _, -1, .int lm, rfl, rfl, .inl (.inl (s1 _ _ h2)), ?_, n, lm, rfl, rfl, _, rfl, ?_⟩
  · rw [List.map_append]
    exact atI_last _ _
  cases c3 : decide (n ≤ lm) with
  | false =>
    rw [c3, Bool.false_and] at q
    exact iteT (q H1 s1)
  | true =>
  rw [c3, Bool.true_and] at q
  have h31 : SqT K H1 ep (rs.map V.ref) := .inl (rd_keep h3 (KeepT.of s1))
  have h41 := ens_keep (KeepT.of s1) h4
  have hd1 := dp_keep (KeepT.of s1) _ _ hfl hd
  refine iteF ⟨.ref p, rfl, p, _, 1, .ref ep, rfl, rfl, .inl (.inl (s1 _ _ h1)), rfl, ep, rfl, ⟨_, h31⟩, fun d nd2 => ?_⟩
  refine dc_tup (xs := rs.map V.ref) (fun i H' => H' d = some (.dK (mergeK [] (lsK n (es.take i)))) ∧ ∀ b o, b ≠ d → H1 b = some o → H' b = some o) ?_ ?_ ?_ ?_
  · exact ⟨upd_same, fun b o nb e => by rw [upd_ne nb]; exact e⟩
  · rintro i H' _ ⟨_, kp2⟩
    exact .inl (rd_keep (rd_keep h3 (KeepT.of s1)) (KeepT.of (show Same H1 H' from fun b o e => kp2 b o (ne_of_none e nd2) e)))
  · rintro i y H' hy ⟨hD, kp2⟩
    rw [List.getElem?_map] at hy
    obtain ⟨r, hr', rfl⟩ := Option.map_eq_some_iff.mp hy
    obtain ⟨e, he2, h5⟩ := ens_at h41 hr'
    have sm : Same H1 H' := fun b o e => kp2 b o (ne_of_none e nd2) e
    have h6 := h5.keep (KeepT.of sm)
    have hls := lsK_append n (es.take i) [e]
    rw [← take_next he2, lsK_one] at hls
    have hlen : (mergeK [] (lsK n (es.take i))).length ≤ 24 := Nat.le_trans (merge_len _) (Nat.le_trans (lsK_len _ _) (by rw [List.length_take]; omega))
    obtain ⟨p', wd, v1, vs', ev, hp', hw⟩ := sv_let h6.2
    refine ⟨r, _, rfl, .inl (.inl h6.1), rfl, _, _, rfl, _, _, rfl, rfl, rfl, e.2.1, rfl, p', _, 0, .str wd, ev, rfl, .inl (.inl hp'), at0, rfl, _, rfl, ?_⟩
    by_cases cw : wd = "let"
    · rw [cw] at hw
      rw [hw, decide_eq_true rfl, Bool.true_and] at hls
      rw [cw, decide_eq_true rfl]
      refine iteT ⟨.int e.1, rfl, .int n, rfl, e.1, n, rfl, rfl, _, rfl, ?_⟩
      by_cases c1 : e.1 < n
      · rw [decide_eq_true c1, if_pos rfl] at hls
        rw [decide_eq_true c1]
        refine iteT ⟨.int e.1, rfl, _, .inl e.1, rfl, hD, small1000 (by omega), ?_, fun b o nb q' => by rw [upd_ne nb]; exact kp2 b o nb q'⟩
        rw [hls, merge_snoc]
        exact upd_same
      · rw [decide_eq_false c1, if_neg Bool.false_ne_true, List.append_nil] at hls
        rw [decide_eq_false c1]
        refine iteF ⟨?_, kp2⟩
        rw [hls]
        exact hD
    · rw [hw, decide_eq_false cw, Bool.false_and, if_neg Bool.false_ne_true, List.append_nil] at hls
      rw [decide_eq_false (fun z => cw (by injection z))]
      refine iteF ⟨?_, kp2⟩
      rw [hls]
      exact hD
  · rintro H2 ⟨hD, kp2⟩
    rw [List.length_map, hl, List.take_length] at hD
    have s2 : Same H1 H2 := fun b o e => kp2 b o (ne_of_none e nd2) e
    have hx1 : ∀ y, y ∈ [x] → Ex zs m y := fun y hy => by
      rw [List.mem_singleton.mp hy]
      exact he
    have hE := lvls_ex hx1
    refine ⟨v, rfl, v, x, zs, m, rfl, dp_keep (KeepT.of s2) _ _ hfl hd1, he, hb, fun H3 a us s3 na ha hu => ⟨a, rfl, ⟨us, .inl (.inl ha)⟩, fun D nD => ?_⟩⟩
    have lu := dpAll_len hu
    have hD3 := s3 _ _ hD
    have lll : (lvls m [x]).length ≤ 2100000 := Nat.le_trans (lvls_len he) hb
    refine lc_list (xs := us) (fun i H' => H' D = some (.lst ((((lvls m [x]).take i).filter isLet).map fun y => V.bl (letAt es n (posD y)))) ∧ ∀ b o, b ≠ D → H3 b = some o → H' b = some o) ?_ ?_ ?_ ?_
    · exact ⟨upd_same, fun b o nb e => by rw [upd_ne nb]; exact e⟩
    · rintro i H' _ ⟨_, kp⟩
      exact .inl (.inl (kp _ _ (ne_of_none ha nD) ha))
    · rintro i y H' hy ⟨hDD, kp⟩
      obtain ⟨dd, hdi, hyd⟩ := dpAll_at hu hy
      have ex := hE dd (List.mem_of_getElem? hdi)
      have sm : Same H3 H' := fun b o e => kp b o (ne_of_none e nD) e
      have hyd2 := ex.kept (KeepT.of sm) hyd
      obtain ⟨wd, fs, rest, rfl, _, _⟩ := ex.form
      cases hyd2 with
      | tup hS hA =>
      cases hA with
      | cons hw hA =>
      cases hw
      rename_i b vs
      refine ⟨rfl, .ref b, rfl, b, _, 0, .str wd, rfl, rfl, hS, at0, rfl, _, rfl, ?_⟩
      rw [filter_next hdi]
      by_cases cw : wd = "let"
      · subst cw
        obtain ⟨i', rfl⟩ := ex.let'
        cases hA with
        | cons hw hA =>
        cases hw
        rw [decide_eq_true rfl, if_pos (isLet_t rfl), List.map_append]
        refine iteT ⟨.ref b, rfl, b, _, 1, .int i', rfl, rfl, hS, at1, .ref d, rfl, d, _, rfl, DGet.k (k := .inl i') (sm _ _ hD3), _, hDD, ?_, ?_, fun b o nb e => by rw [upd_ne nb]; exact kp b o nb e⟩
        · rw [List.length_map]
          refine Nat.lt_of_le_of_lt (List.length_filter_le _ _) ?_
          rw [List.length_take]
          have : sizeLine = 16777216 := by decide
          omega
        · rw [merge_has, lsK_has]
          exact upd_same
      · rw [decide_eq_false (fun z => cw (by injection z)), if_neg (by rw [isLet_f cw]; exact Bool.false_ne_true), List.append_nil]
        exact iteF ⟨hDD, kp⟩
    · rintro H4 ⟨hDD, kp⟩
      rw [lu, List.take_length] at hDD
      have sm : Same H3 H4 := fun b o e => kp b o (ne_of_none e nD) e
      refine ⟨D, ((lvls m [x]).filter isLet).map fun y => letAt es n (posD y), rfl, .inl (.inl (by rw [List.map_map]; exact hDD)), ?_⟩
      rw [List.all_map]
      exact q H4 (s1.trans (s2.trans (s3.trans sm)))
end
end L20

namespace L20
open PySem PySem.Spec PyProof.Rows L2 GR WX AD
/-! ### what the law makes of an expression: some ints become lets -/
/-- nested at most so deep: texts, ints, tuples -/
inductive Nd : Nat → PyData → Prop
  | str (n : Nat) (z : Str) : PyData.strOk z = true → Nd (n + 1) (.str z)
  | int (n : Nat) (i : Int) : Nd (n + 1) (.int i)
  | tup (n : Nat) (xs : List PyData) : (∀ y, y ∈ xs → Nd n y) → Nd (n + 1) (.tuple xs)
theorem Nd.mono : ∀ {n m : Nat} {x : PyData}, Nd n x → n ≤ m → Nd m x := by
  intro n m x h
  induction h generalizing m with
  | str n z hz => intro hm; obtain ⟨k, rfl⟩ : ∃ k, m = k + 1 := ⟨m - 1, by omega⟩; exact .str k z hz
  | int n z => intro hm; obtain ⟨k, rfl⟩ : ∃ k, m = k + 1 := ⟨m - 1, by omega⟩; exact .int k z
  | tup n xs _ ih => intro hm; obtain ⟨k, rfl⟩ : ∃ k, m = k + 1 := ⟨m - 1, by omega⟩; exact .tup k xs fun y hy => ih y hy (by omega)
theorem lay_of : ∀ {l : List PyData} {n : Nat}, (∀ x, x ∈ l → x.canLay0 = true ∧ x.depth ≤ n ∧ flatD x = true) → PyData.canLayAll0 l = true ∧ PyData.depthAll l ≤ n ∧ flatDs l = true
  | [], n, _ => ⟨by simp only [PyData.canLayAll0], by simp only [PyData.depthAll]; omega, by simp only [flatDs]⟩
  | x :: l, n, h => by
    obtain ⟨a, b, c⟩ := h x List.mem_cons_self
    obtain ⟨a', b', c'⟩ := lay_of fun y hy => h y (List.mem_cons_of_mem _ hy)
    refine ⟨by simp only [PyData.canLayAll0, a, a', Bool.and_self], ?_, by simp only [flatDs, c, c', Bool.and_self]⟩
    simp only [PyData.depthAll]
    omega
theorem Nd.lay {n : Nat} {x : PyData} (h : Nd n x) : x.canLay0 = true ∧ x.depth ≤ n ∧ flatD x = true := by
  induction h with
  | str n z hz => exact ⟨by simp only [PyData.canLay0, hz], by simp only [PyData.depth]; omega, by simp only [flatD]⟩
  | int n i => exact ⟨by simp only [PyData.canLay0], by simp only [PyData.depth]; omega, by simp only [flatD]⟩
  | tup n xs _ ih =>
    obtain ⟨a, b, c⟩ := lay_of ih
    exact ⟨by simp only [PyData.canLay0, a], by simp only [PyData.depth]; omega, by simp only [flatD, c]⟩
theorem Nd.shaped {n : Nat} {x : PyData} (h : Nd n x) (hn : n ≤ 64) : SeqAt.shaped x = true := by
  unfold SeqAt.shaped
  rw [Bool.and_eq_true]
  exact ⟨h.lay.1, decide_eq_true (by have := h.lay.2.1; omega)⟩
theorem Nd.two {n : Nat} {w : Str} {i : Int} (hw : PyData.strOk w = true) : Nd (n + 2) (.tuple [.str w, .int i]) := .tup _ _ fun y hy => by
  simp only [List.mem_cons, List.not_mem_nil, or_false] at hy
  rcases hy with rfl | rfl
  · exact .str n _ hw
  · exact .int n _
theorem nd_key {n : Nat} : Nd (n + 2) (.tuple [.str "key"]) := .tup _ _ fun y hy => by
  rw [List.mem_singleton.mp hy]
  exact .str n _ (by decide +kernel)
theorem nd_row {n : Nat} {t : Str} (ht : PyData.strOk t = true) : Nd (n + 3) (rowX t) := .tup _ _ fun y hy => by
  simp only [List.mem_cons, List.not_mem_nil, or_false] at hy
  rcases hy with rfl | rfl | rfl | rfl
  · exact .str _ _ (by decide +kernel)
  · exact .str _ _ ht
  · exact nd_key
  · exact .str _ _ (by decide +kernel)
theorem Cx.nd {zs sc : List Str} {b : Bool} {n : Nat} {x : PyData} (hz : ∀ z, z ∈ zs → PyData.strOk z = true) (hs : ∀ z, z ∈ sc → PyData.strOk z = true) (h : Cx zs sc b n x) : Nd (n + 1) x := by
  induction h with
  | int b n i h1 h2 => exact .two (by decide +kernel)
  | let_ b n i g9 h1 h2 => exact .two (by decide +kernel)
  | key n => exact nd_key
  | var b n z h1 =>
    refine .tup _ _ fun y hy => ?_
    simp only [List.mem_cons, List.not_mem_nil, or_false] at hy
    rcases hy with rfl | rfl
    · exact .str _ _ (by decide +kernel)
    · exact .str _ _ (hs _ h1)
  | cell b n t v x h1 h2 _ ih =>
    refine .tup _ _ fun y hy => ?_
    simp only [List.mem_cons, List.not_mem_nil, or_false] at hy
    rcases hy with rfl | rfl | rfl | rfl
    · exact .str _ _ (by decide +kernel)
    · exact .str _ _ (hz _ h1)
    · exact ih
    · exact .str _ _ (hz _ h2)
  | op b n o x y h1 _ _ ih1 ih2 =>
    refine .tup _ _ fun y hy => ?_
    simp only [List.mem_cons, List.not_mem_nil, or_false] at hy
    rcases hy with rfl | rfl | rfl
    · refine .str _ _ ?_
      simp only [ops5, List.mem_cons, List.not_mem_nil, or_false] at h1
      rcases h1 with rfl | rfl | rfl | rfl | rfl <;> decide +kernel
    · exact ih1
    · exact ih2
  | at_ b n x y _ _ ih1 ih2 =>
    refine .tup _ _ fun y hy => ?_
    simp only [List.mem_cons, List.not_mem_nil, or_false] at hy
    rcases hy with rfl | rfl | rfl
    · exact .str _ _ (by decide +kernel)
    · exact ih1
    · exact ih2
  | iff b n x y z _ _ _ ih1 ih2 ih3 =>
    refine .tup _ _ fun y hy => ?_
    simp only [List.mem_cons, List.not_mem_nil, or_false] at hy
    rcases hy with rfl | rfl | rfl | rfl
    · exact .str _ _ (by decide +kernel)
    · exact ih1
    · exact ih2
    · exact ih3
  | agg b n o t p xs vs ds h0 h1 h2 h3 _ _ _ _ ih1 ih2 ih3 ih4 =>
    refine .tup _ _ fun y hy => ?_
    rcases List.mem_cons.mp hy with rfl | hy
    · refine .str _ _ ?_
      simp only [aggk, List.mem_cons, List.not_mem_nil, or_false, Prod.mk.injEq] at h1
      rcases h1 with ⟨rfl, _⟩ | ⟨rfl, _⟩ | ⟨rfl, _⟩ | ⟨rfl, _⟩ <;> decide +kernel
    rcases List.mem_cons.mp hy with rfl | hy
    · exact .str _ _ (hz _ h2)
    rcases List.mem_cons.mp hy with rfl | hy
    · exact (Nd.tup 2 _ fun z hz => ih1 z hz).mono (by omega)
    rcases List.mem_cons.mp hy with rfl | hy
    · exact (nd_row (n := 0) (hz _ h2)).mono (by omega)
    rcases List.mem_cons.mp hy with rfl | hy
    · exact ih2
    rcases List.mem_append.mp hy with hy | hy
    · exact ih3 y hy
    · exact ih4 y hy
theorem nd_row_le {n : Nat} {t : Str} (h : Nd n (rowX t)) : 3 ≤ n := by
  cases h with
  | tup n xs h =>
    have := h (.tuple [.str "key"]) (List.mem_cons_of_mem _ (List.mem_cons_of_mem _ List.mem_cons_self))
    cases this with
    | tup n xs h =>
      have := h (.str "key") List.mem_cons_self
      cases this
      omega
/-- what the law's walk meets -/
def Kl (zs : List Str) (x : PyData) : Prop := (∃ b m, Cx zs [] b m x) ∨ (∃ w, x = .str w) ∨ (∃ i, x = .int i) ∨ ∃ b xs, x = .tuple xs ∧ xs.length ≤ 2 ∧ ∀ y, y ∈ xs → Cx zs [] b 1 y
/-- what becomes of it -/
structure Wq (zs : List Str) (x x' : PyData) : Prop where
  cx : ∀ b m, Cx zs [] b m x → Cx zs [] b m x'
  str : ∀ z, x = .str z → x' = .str z
  int : ∀ i, x = .int i → x' = .int i
  key : x = .tuple [.str "key"] → x' = .tuple [.str "key"]
  row : ∀ t, x = rowX t → x' = rowX t
  two : ∀ b xs, x = .tuple xs → xs.length ≤ 2 → (∀ y, y ∈ xs → Cx zs [] b 1 y) → ∃ xs', x' = .tuple xs' ∧ xs'.length ≤ 2 ∧ ∀ y, y ∈ xs' → Cx zs [] b 1 y
theorem Wq.refl {zs : List Str} (x : PyData) : Wq zs x x := ⟨fun _ _ h => h, fun _ h => h, fun _ h => h, fun h => h, fun _ h => h, fun b xs h h1 h2 => ⟨xs, h, h1, h2⟩⟩
theorem Wq.trans {zs : List Str} {x y z : PyData} (a : Wq zs x y) (c : Wq zs y z) : Wq zs x z :=
  ⟨fun b m h => c.cx b m (a.cx b m h), fun w h => c.str w (a.str w h), fun w h => c.int w (a.int w h), fun h => c.key (a.key h), fun t h => c.row t (a.row t h), fun b xs h h1 h2 => by
    obtain ⟨ys, e, l, q⟩ := a.two b xs h h1 h2
    exact c.two b ys e l q⟩
theorem no_str {zs : List Str} {b : Bool} {m : Nat} {z : Str} (h : Cx zs [] b m (.str z)) : False := by cases h
theorem no_int {zs : List Str} {b : Bool} {m : Nat} {z : Int} (h : Cx zs [] b m (.int z)) : False := by cases h
theorem wq_let {zs : List Str} {i p : Int} (hm : ("+" : Str) ∈ zs) (h0 : 0 ≤ p) (h1 : p ≤ 10000) : Wq zs (.tuple [.str "int", .int i]) (.tuple [.str "let", .int p]) := by
  refine ⟨fun b m h => ?_, fun z e => (nomatch e), fun z e => (nomatch e), fun e => ?_, fun t e => ?_, fun b xs e h1 h2 => ?_⟩
  · obtain ⟨k, rfl⟩ : ∃ k, m = k + 1 := by cases h <;> exact ⟨_, rfl⟩
    exact .let_ b k p hm h0 h1
  · cases e
  · unfold rowX at e; cases e
  · cases e
    exact absurd (h2 _ List.mem_cons_self) no_str
abbrev aggW4 : List Str := ["count", "sum", "most", "first"]
theorem aggk_w {o : Str} {a b : Nat} (h : (o, a, b) ∈ aggk) : o ∈ aggW4 := by
  simp only [aggk, List.mem_cons, List.not_mem_nil, or_false, Prod.mk.injEq] at h
  rcases h with ⟨rfl, _⟩ | ⟨rfl, _⟩ | ⟨rfl, _⟩ | ⟨rfl, _⟩ <;> decide
def pairD (p : Int) : PyData := .tuple [.tuple [.str "let", .int p], .tuple [.str "int", .int 3]]
theorem wq_agg {zs : List Str} {o : Str} {t e : PyData} {rest : List PyData} {p : Int} (hm : ("+" : Str) ∈ zs) (ho : o ∈ aggW4) (h0 : 0 ≤ p) (h1 : p ≤ 10000) : Wq zs (.tuple (.str o :: t :: e :: rest)) (.tuple (.str o :: t :: pairD p :: rest)) := by
  have hne : ∀ w : Str, w ∉ aggW4 → o ≠ w := fun w hw e => hw (e ▸ ho)
  refine ⟨fun b m h => ?_, fun z e => (nomatch e), fun z e => (nomatch e), fun e => (nomatch e), fun t' e' => ?_, fun b xs e h1 h2 => ?_⟩
  · generalize hx : PyData.tuple (.str o :: t :: e :: rest) = x at h
    cases h with
    | int b n i h1 h2 => cases hx
    | let_ b n i g9 h1 h2 => cases hx
    | key n => cases hx
    | var b n z h1 => cases hx
    | cell b n t v x h1 h2 _ => cases hx; exact absurd rfl (hne "cell" (by decide))
    | op b n o' x y h1 _ _ =>
      cases hx
      simp only [ops5, List.mem_cons, List.not_mem_nil, or_false] at h1
      rcases h1 with rfl | rfl | rfl | rfl | rfl <;> exact absurd ho (by decide)
    | at_ b n x y _ _ => cases hx; exact absurd rfl (hne "at" (by decide))
    | iff b n x y z _ _ _ => cases hx; exact absurd rfl (hne "if" (by decide))
    | agg b n o' t' p' xs vs ds g0 g1 g2 g3 g4 g5 g6 g7 =>
      cases hx
      refine .agg b n o t' p' [.tuple [.str "let", .int p], .tuple [.str "int", .int 3]] vs ds g0 g1 g2 (Nat.le_refl 2) (fun y hy => ?_) g5 g6 g7
      simp only [List.mem_cons, List.not_mem_nil, or_false] at hy
      rcases hy with rfl | rfl
      · exact .let_ b 0 p hm h0 h1
      · exact .int b 0 3 (by decide) (by decide)
  · unfold rowX at e'; cases e'; exact absurd rfl (hne "cell" (by decide))
  · cases e
    exact absurd (h2 _ List.mem_cons_self) no_str
theorem pair_append {α β : Type} {R : α → β → Prop} : ∀ {a b : List α} {c : List β}, Paired R (a ++ b) c → ∃ c1 c2, c = c1 ++ c2 ∧ Paired R a c1 ∧ Paired R b c2
  | [], b, c, h => ⟨[], c, rfl, .nil, h⟩
  | x :: a, b, _, .cons h t => by
    obtain ⟨c1, c2, rfl, h1, h2⟩ := pair_append t
    exact ⟨_ :: c1, c2, rfl, .cons h h1, h2⟩
theorem pair_all {zs : List Str} {b : Bool} {m : Nat} : ∀ {xs ys : List PyData}, Paired (Wq zs) xs ys → (∀ x, x ∈ xs → Cx zs [] b m x) → ∀ y, y ∈ ys → Cx zs [] b m y
  | _, _, .nil, _, y, hy => (nomatch hy)
  | x :: _, y' :: _, .cons h t, g, y, hy => by
    rcases List.mem_cons.mp hy with rfl | hy
    · exact h.cx b m (g x List.mem_cons_self)
    · exact pair_all t (fun z hz => g z (List.mem_cons_of_mem _ hz)) y hy
theorem wq_step {zs : List Str} {xs ys : List PyData} (h : Paired (Wq zs) xs ys) : Wq zs (.tuple xs) (.tuple ys) := by
  refine ⟨fun b m g => ?_, fun z e => (nomatch e), fun z e => (nomatch e), fun e => ?_, fun t e => ?_, fun b xs' e h1 h2 => ?_⟩
  · generalize hx : PyData.tuple xs = x at g
    cases g with
    | int b n i h1 h2 =>
      cases hx
      cases h with | cons a h => cases h with | cons c h => cases h; rw [a.str _ rfl, c.int _ rfl]; exact .int b n i h1 h2
    | let_ b n i g9 h1 h2 =>
      cases hx
      cases h with | cons a h => cases h with | cons c h => cases h; rw [a.str _ rfl, c.int _ rfl]; exact .let_ b n i g9 h1 h2
    | key n =>
      cases hx
      cases h with | cons a h => cases h; rw [a.str _ rfl]; exact .key n
    | var b n z h1 => cases h1
    | cell b n t v x h1 h2 g =>
      cases hx
      cases h with | cons a h => cases h with | cons c h => cases h with | cons d h => cases h with | cons e h => cases h; rw [a.str _ rfl, c.str _ rfl, e.str _ rfl]; exact .cell b n t v _ h1 h2 (d.cx _ _ g)
    | op b n o' x y h1 g1 g2 =>
      cases hx
      cases h with | cons a h => cases h with | cons c h => cases h with | cons d h => cases h; rw [a.str _ rfl]; exact .op b n o' _ _ h1 (c.cx _ _ g1) (d.cx _ _ g2)
    | at_ b n x y g1 g2 =>
      cases hx
      cases h with | cons a h => cases h with | cons c h => cases h with | cons d h => cases h; rw [a.str _ rfl]; exact .at_ b n _ _ (c.cx _ _ g1) (d.cx _ _ g2)
    | iff b n x y z g1 g2 g3 =>
      cases hx
      cases h with | cons a h => cases h with | cons c h => cases h with | cons d h => cases h with | cons e h => cases h; rw [a.str _ rfl]; exact .iff b n _ _ _ (c.cx _ _ g1) (d.cx _ _ g2) (e.cx _ _ g3)
    | agg b n o t p es vs ds g0 g1 g2 g3 g4 g5 g6 g7 =>
      cases hx
      cases h with | cons a h => cases h with | cons c h => cases h with | cons d h => cases h with | cons e h => cases h with | cons f h =>
        obtain ⟨c1, c2, rfl, k1, k2⟩ := pair_append h
        obtain ⟨es', rfl, l1, l2⟩ := d.two b es rfl g3 g4
        rw [a.str _ rfl, c.str _ rfl, e.row _ rfl]
        have e1 := Paired.length k1
        have e2 := Paired.length k2
        exact .agg b n o t _ es' c1 c2 g0 (by rw [← e1, ← e2]; exact g1) g2 l1 l2 (f.cx _ _ g5) (pair_all k1 g6) (pair_all k2 g7)
  · cases e
    cases h with | cons a h => cases h; rw [a.str _ rfl]
  · unfold rowX at e ⊢
    cases e
    cases h with | cons a h => cases h with | cons c h => cases h with | cons d h => cases h with | cons e h => cases h; rw [a.str _ rfl, c.str _ rfl, d.key rfl, e.str _ rfl]
  · cases e
    exact ⟨ys, rfl, by rw [← Paired.length h]; exact h1, pair_all h h2⟩
/-- what it holds is of the same kinds -/
theorem Kl.items {zs : List Str} (hi : ("in" : Str) ∈ zs) {xs : List PyData} (h : Kl zs (.tuple xs)) : xs.length ≤ 8 ∧ ∀ y, y ∈ xs → Kl zs y := by
  rcases h with ⟨b, m, h⟩ | ⟨_, h⟩ | ⟨_, h⟩ | ⟨b, ys, h, h1, h2⟩
  · generalize hx : PyData.tuple xs = x at h
    have S : ∀ z, Kl zs (.str z) := fun z => .inr (.inl ⟨z, rfl⟩)
    have I : ∀ z, Kl zs (.int z) := fun z => .inr (.inr (.inl ⟨z, rfl⟩))
    cases h with
    | int b n i h1 h2 =>
      cases hx
      refine ⟨by simp only [List.length_cons, List.length_nil]; omega, fun y hy => ?_⟩
      simp only [List.mem_cons, List.not_mem_nil, or_false] at hy
      rcases hy with rfl | rfl
      · exact S _
      · exact I _
    | let_ b n i g9 h1 h2 =>
      cases hx
      refine ⟨by simp only [List.length_cons, List.length_nil]; omega, fun y hy => ?_⟩
      simp only [List.mem_cons, List.not_mem_nil, or_false] at hy
      rcases hy with rfl | rfl
      · exact S _
      · exact I _
    | key n =>
      cases hx
      exact ⟨by decide, fun y hy => by rw [List.mem_singleton.mp hy]; exact S _⟩
    | var b n z h1 => cases h1
    | cell b n t v x h1 h2 g =>
      cases hx
      refine ⟨by simp only [List.length_cons, List.length_nil]; omega, fun y hy => ?_⟩
      simp only [List.mem_cons, List.not_mem_nil, or_false] at hy
      rcases hy with rfl | rfl | rfl | rfl
      · exact S _
      · exact S _
      · exact .inl ⟨_, _, g⟩
      · exact S _
    | op b n o' x y h1 g1 g2 =>
      cases hx
      refine ⟨by simp only [List.length_cons, List.length_nil]; omega, fun y hy => ?_⟩
      simp only [List.mem_cons, List.not_mem_nil, or_false] at hy
      rcases hy with rfl | rfl | rfl
      · exact S _
      · exact .inl ⟨_, _, g1⟩
      · exact .inl ⟨_, _, g2⟩
    | at_ b n x y g1 g2 =>
      cases hx
      refine ⟨by simp only [List.length_cons, List.length_nil]; omega, fun y hy => ?_⟩
      simp only [List.mem_cons, List.not_mem_nil, or_false] at hy
      rcases hy with rfl | rfl | rfl
      · exact S _
      · exact .inl ⟨_, _, g1⟩
      · exact .inl ⟨_, _, g2⟩
    | iff b n x y z g1 g2 g3 =>
      cases hx
      refine ⟨by simp only [List.length_cons, List.length_nil]; omega, fun y hy => ?_⟩
      simp only [List.mem_cons, List.not_mem_nil, or_false] at hy
      rcases hy with rfl | rfl | rfl | rfl
      · exact S _
      · exact .inl ⟨_, _, g1⟩
      · exact .inl ⟨_, _, g2⟩
      · exact .inl ⟨_, _, g3⟩
    | agg b n o t p es vs ds g0 g1 g2 g3 g4 g5 g6 g7 =>
      cases hx
      have hl : vs.length ≤ 1 ∧ ds.length ≤ 1 := by
        simp only [aggk, List.mem_cons, List.not_mem_nil, or_false, Prod.mk.injEq] at g1
        rcases g1 with ⟨_, h1, h2⟩ | ⟨_, h1, h2⟩ | ⟨_, h1, h2⟩ | ⟨_, h1, h2⟩ <;> omega
      refine ⟨by simp only [List.length_cons, List.length_append]; omega, fun y hy => ?_⟩
      rcases List.mem_cons.mp hy with rfl | hy
      · exact S _
      rcases List.mem_cons.mp hy with rfl | hy
      · exact S _
      rcases List.mem_cons.mp hy with rfl | hy
      · exact .inr (.inr (.inr ⟨b, es, rfl, g3, g4⟩))
      rcases List.mem_cons.mp hy with rfl | hy
      · exact .inl ⟨true, 3, .cell true 2 t "in" _ g2 hi (.key 1)⟩
      rcases List.mem_cons.mp hy with rfl | hy
      · exact .inl ⟨_, _, g5⟩
      rcases List.mem_append.mp hy with hy | hy
      · exact .inl ⟨_, _, g6 y hy⟩
      · exact .inl ⟨_, _, g7 y hy⟩
  · cases h
  · cases h
  · cases h
    exact ⟨by omega, fun y hy => .inl ⟨b, 1, h2 y hy⟩⟩
theorem kl_pair {zs : List Str} {p : Int} (hm : ("+" : Str) ∈ zs) (h0 : 0 ≤ p) (h1 : p ≤ 10000) : Kl zs (pairD p) := .inr (.inr (.inr ⟨false, _, rfl, Nat.le_refl 2, fun y hy => by
  simp only [List.mem_cons, List.not_mem_nil, or_false] at hy
  rcases hy with rfl | rfl
  · exact .let_ false 0 p hm h0 h1
  · exact .int false 0 3 (by decide) (by decide)⟩))
theorem nd_pair {n : Nat} {p : Int} : Nd (n + 3) (pairD p) := .tup _ _ fun y hy => by
  simp only [List.mem_cons, List.not_mem_nil, or_false] at hy
  rcases hy with rfl | rfl
  · exact .two (by decide +kernel)
  · exact .two (by decide +kernel)
theorem flat_pair {p : Int} : flatD (pairD p) = true := by simp only [pairD, flatD, flatDs, Bool.and_self]
theorem str_inj {a b : Str} (h : PyData.str a = .str b) : a = b := by cases h; rfl
/-- the small ones -/
theorem Cx.one {zs : List Str} {b : Bool} {y : PyData} (h : Cx zs [] b 1 y) : ∃ w r, y = .tuple (.str w :: r) := by
  cases h with
  | int b n i h1 h2 => exact ⟨_, _, rfl⟩
  | let_ b n i g9 h1 h2 => exact ⟨_, _, rfl⟩
  | key n => exact ⟨_, _, rfl⟩
  | var b n z h1 => cases h1
  | cell b n t v x h1 h2 g => cases g
  | op b n o' x y h1 g1 g2 => cases g1
  | at_ b n x y g1 g2 => cases g1
  | iff b n x y z g1 g2 g3 => cases g1
  | agg b n o t p es vs ds g0 g1 g2 g3 g4 g5 g6 g7 => omega
/-- an int, an aggregate are told by it -/
theorem Kl.head {zs : List Str} {h : PyData} {r : List PyData} (k : Kl zs (.tuple (h :: r))) : ((∃ w, h = .str w) ∨ ∃ ds, h = .tuple ds) ∧ (h = .str "int" → ∃ i, r = [.int i]) ∧
    (∀ o, h = .str o → o ∈ aggW4 → ∃ t e rest, r = .str t :: e :: rest ∧ rest ≠ [] ∧ rowX t ∈ rest ∧ ∃ b m, Cx zs [] b m (.tuple (h :: r))) := by
  rcases k with ⟨b, m, k⟩ | ⟨_, k⟩ | ⟨_, k⟩ | ⟨b, ys, k, h1, h2⟩
  · have k0 := k
    generalize hx : PyData.tuple (h :: r) = x at k
    have no : ∀ {w : Str} {C : Str → Prop}, w ∉ aggW4 → ∀ o, (PyData.str w) = .str o → o ∈ aggW4 → C o := fun {w C} hw o e ho => by cases e; exact absurd ho hw
    cases k with
    | int b n i h1 h2 =>
      cases hx
      exact ⟨.inl ⟨_, rfl⟩, fun _ => ⟨i, rfl⟩, fun o e ho => by cases e; exact absurd ho (by decide)⟩
    | let_ b n i g9 h1 h2 =>
      cases hx
      exact ⟨.inl ⟨_, rfl⟩, fun e => absurd (str_inj e) (by decide), fun o e ho => by cases e; exact absurd ho (by decide)⟩
    | key n =>
      cases hx
      exact ⟨.inl ⟨_, rfl⟩, fun e => absurd (str_inj e) (by decide), fun o e ho => by cases e; exact absurd ho (by decide)⟩
    | var b n z h1 => cases h1
    | cell b n t v x h1 h2 g =>
      cases hx
      exact ⟨.inl ⟨_, rfl⟩, fun e => absurd (str_inj e) (by decide), fun o e ho => by cases e; exact absurd ho (by decide)⟩
    | op b n o' x y h1 g1 g2 =>
      cases hx
      simp only [ops5, List.mem_cons, List.not_mem_nil, or_false] at h1
      rcases h1 with rfl | rfl | rfl | rfl | rfl <;> exact ⟨.inl ⟨_, rfl⟩, fun e => absurd (str_inj e) (by decide), fun o e ho => by cases e; exact absurd ho (by decide)⟩
    | at_ b n x y g1 g2 =>
      cases hx
      exact ⟨.inl ⟨_, rfl⟩, fun e => absurd (str_inj e) (by decide), fun o e ho => by cases e; exact absurd ho (by decide)⟩
    | iff b n x y z g1 g2 g3 =>
      cases hx
      exact ⟨.inl ⟨_, rfl⟩, fun e => absurd (str_inj e) (by decide), fun o e ho => by cases e; exact absurd ho (by decide)⟩
    | agg b n o t p es vs ds g0 g1 g2 g3 g4 g5 g6 g7 =>
      cases hx
      have hw := aggk_w g1
      refine ⟨.inl ⟨_, rfl⟩, fun e => ?_, fun o' e ho => ⟨t, .tuple es, _, rfl, List.cons_ne_nil _ _, List.mem_cons_self, _, _, k0⟩⟩
      cases e
      exact absurd hw (by decide)
  · cases k
  · cases k
  · cases k
    obtain ⟨w, r', rfl⟩ := (h2 h List.mem_cons_self).one
    exact ⟨.inr ⟨_, rfl⟩, fun e => (nomatch e), fun o e => (nomatch e)⟩
mutual
theorem dd_of {K : PySem.W.Frag} {ok : Addr → Prop} {H : Hp} : ∀ (x : PyData) (v : V), flatD x = true → Dp K H v x → Dd K ok H v x
  | .tuple ds, v, hf, h => by
    cases h with
    | tup h1 h2 => exact .tup h1 (dd_all ds _ (by simpa only [flatD] using hf) h2)
  | .int i, v, _, h => by cases h; exact .int i
  | .str z, v, _, h => by cases h; exact .str z
  | .bool b, v, _, h => by cases h; exact .bl b
  | .none, v, _, h => by cases h; exact .non
  | .list _, v, hf, h => by simp only [flatD] at hf; exact absurd hf Bool.false_ne_true
  | .dict _, v, hf, h => by simp only [flatD] at hf; exact absurd hf Bool.false_ne_true
theorem dd_all {K : PySem.W.Frag} {ok : Addr → Prop} {H : Hp} : ∀ (ds : List PyData) (vs : List V), flatDs ds = true → DpAll K H vs ds → DdAll K ok H vs ds
  | [], _, _, .nil => .nil
  | d :: ds, _, hf, .cons h t => by
    rw [flatDs, Bool.and_eq_true] at hf
    exact .cons (dd_of d _ hf.1 h) (dd_all ds _ hf.2 t)
end
end L20

namespace L20
open PySem PySem.Spec PyProof.Rows L2 GR WX AD
/-- draws of the walk -/
def wx : Nat → Int
  | 0 => 1
  | n + 1 => 3 + 8 * wx n
theorem wx_pos : ∀ n, 1 ≤ wx n
  | 0 => Int.le_refl _
  | n + 1 => by have := wx_pos n; show 1 ≤ 3 + 8 * wx n; omega
section
variable {P : Program} {w : World} {K : PySem.W.Frag} {mg : Str → Option Value} {base : Heap}
abbrev s_law_with_lets : Stmt := topS 27
abbrev N_wl : List Str := ["_law_deck_here", "_law_thing", "_law_places", "_law_one"]
abbrev ps_wl : List Str := ["_law_deck_here", "_law_thing", "_law_places"]
theorem sc_law_with_lets : FnScope N_wl ps_wl (defScope s_law_with_lets) := ⟨rfl, rfl, rfl, by decide +kernel, rfl, by decide +kernel, by decide +kernel⟩
/-- places to draw from -/
structure Pl (H : Hp) (d c pl : Addr) (ps : List Int) : Prop where
  at' : H pl = some (.lst (ps.map V.int))
  n0 : pl ≠ d ∧ pl ≠ c
  ne : ps ≠ []
  len : ps.length ≤ 1000
  bd : ∀ p, p ∈ ps → 0 ≤ p ∧ p ≤ 10000
theorem Pl.keep {H H' : Hp} {d c pl : Addr} {ps : List Int} (h : Pl H d c pl ps) (k : Keep d c H H') : Pl H' d c pl ps := ⟨k _ _ h.n0.1 h.n0.2 h.at', h.n0, h.ne, h.len, h.bd⟩
def sp_wl (K : PySem.W.Frag) (zs : List Str) (n : Nat) : Sp := fun vs H Q _ => ∃ (d c pl : Addr) (N : Int) (v : V) (x : PyData) (ps : List Int), vs = [.ref d, v, .ref pl] ∧ Deck H d c N ∧ N + wx n < 2 ^ 58 ∧ Pl H d c pl ps ∧ Dp K H v x ∧ Nd n x ∧ Kl zs x ∧
  ∀ H' v' x', Keep d c H H' → Deck H' d c (N + wx n) → Dp K H' v' x' → flatD x' = true → Wq zs x x' → Q v' H'
theorem eqv_str {x : PyData} {z : Str} (h : PyData.eqv x (.str z) = true) : x = .str z := by
  cases x with
  | str y => rw [show y = z from by simpa only [PyData.eqv, beq_iff_eq] using h]
  | _ => simp [PyData.eqv] at h
theorem eqv_str' {x : PyData} {z : Str} (h : PyData.eqv (.str z) x = true) : x = .str z := by
  cases x with
  | str y => rw [show z = y from by simpa only [PyData.eqv, beq_iff_eq] using h]
  | _ => simp [PyData.eqv] at h
theorem any_agg {x : PyData} (h : (([.str "count", .str "sum", .str "most", .str "first"] : List PyData).any fun z => PyData.eqv z x) = true) : ∃ o, x = .str o ∧ o ∈ aggW4 := by
  obtain ⟨z, hz, e⟩ := List.any_eq_true.mp h
  simp only [List.mem_cons, List.not_mem_nil, or_false] at hz
  rcases hz with rfl | rfl | rfl | rfl <;> exact ⟨_, eqv_str' e, by decide⟩
theorem cut_two {x y z : V} {r : List V} : cutV (x :: y :: z :: r) none (some 2) = [x, y] := by
  unfold cutV
  rw [show HT.sIx (x :: y :: z :: r).length 0 none = 0 from rfl, show (some (2 : Int)) = some ((2 : Nat) : Int) from rfl, HT.sIx_nat, show min 2 (x :: y :: z :: r).length = 2 by rw [List.length_cons, List.length_cons]; omega]
  rfl
theorem cut_three {x y z : V} {r : List V} : cutV (x :: y :: z :: r) (some 3) none = r := by
  unfold cutV
  rw [show HT.sIx (x :: y :: z :: r).length (x :: y :: z :: r).length none = (x :: y :: z :: r).length from rfl, show (some (3 : Int)) = some ((3 : Nat) : Int) from rfl, HT.sIx_nat, show min 3 (x :: y :: z :: r).length = 3 by rw [List.length_cons, List.length_cons, List.length_cons]; omega]
  show r.take (r.length + 3 - 3) = r
  rw [Nat.add_sub_cancel, List.take_length]
theorem no_two {x y z : V} {r : List V} : ¬ (HT.sIx (x :: y :: z :: r).length 0 none = 0 ∧ HT.sIx (x :: y :: z :: r).length (x :: y :: z :: r).length (some 2) = (x :: y :: z :: r).length) := fun h => by
  have := h.2
  rw [show (some (2 : Int)) = some ((2 : Nat) : Int) from rfl, HT.sIx_nat, List.length_cons, List.length_cons, List.length_cons] at this
  omega
theorem no_three {x y z : V} {r : List V} : ¬ (HT.sIx (x :: y :: z :: r).length 0 (some 3) = 0 ∧ HT.sIx (x :: y :: z :: r).length (x :: y :: z :: r).length none = (x :: y :: z :: r).length) := fun h => by
  have := h.1
  rw [show (some (3 : Int)) = some ((3 : Nat) : Int) from rfl, HT.sIx_nat, List.length_cons, List.length_cons, List.length_cons] at this
  omega
theorem paired_append {α β : Type} {R : α → β → Prop} : ∀ {a b : List α} {c e : List β}, Paired R a c → Paired R b e → Paired R (a ++ b) (c ++ e)
  | [], _, [], _, .nil, h => h
  | _ :: _, _, _ :: _, _, .cons h t, g => .cons h (paired_append t g)
theorem okF : ∀ a : Addr, (fun _ : Addr => False) a → a ≠ sysModules := fun _ h => h.elim
theorem kit_t (K : PySem.W.Frag) (ds : List PyData) : PySem.W.kitOne K (.type (tyN (.tuple ds))) (.type "tuple") = some true := kit_ty (show kitB "tuple" "tuple" = some true by decide +kernel)
theorem kit_ts (K : PySem.W.Frag) (z : Str) : PySem.W.kitOne K (.type (tyN (.str z))) (.type "tuple") = some false := kit_ty (show kitB "str" "tuple" = some false by decide +kernel)
theorem kit_tin (K : PySem.W.Frag) (i : Int) : PySem.W.kitOne K (.type (tyN (.int i))) (.type "tuple") = some false := kit_ty (show kitB "int" "tuple" = some false by decide +kernel)
theorem ok_wl_step {zs : List Str} (hi : ("in" : Str) ∈ zs) (hm : ("+" : Str) ∈ zs) {n k : Nat} (hn60 : n ≤ 60) {f f_law_draw f_law_pick : Addr} {fd fd_law_draw fd_law_pick : FuncData} (F : Fun K "_law_with_lets" "_law_with_lets" s_law_with_lets f fd) (G_law_draw : FnOk P w K mg base CX0 k f_law_draw fd_law_draw ["_law_deck_here", "_law_most"] sp_draw)
    (g_law_draw : mg "_law_draw" = some (.ref f_law_draw)) (K_law_draw : PySem.W.keepIn K (.ref f_law_draw) = true) (b_law_draw : Binds K fd_law_draw ["_law_deck_here", "_law_most"] [])
    (G_law_pick : FnOk P w K mg base CX0 k f_law_pick fd_law_pick ["_law_deck_here", "_law_some"] (sp_pick K))
    (g_law_pick : mg "_law_pick" = some (.ref f_law_pick)) (K_law_pick : PySem.W.keepIn K (.ref f_law_pick) = true) (b_law_pick : Binds K fd_law_pick ["_law_deck_here", "_law_some"] [])
    (G : FnOk P w K mg base CX0 k f fd ps_wl (sp_wl K zs n)) (g : mg "_law_with_lets" = some (.ref f)) (Kf : PySem.W.keepIn K (.ref f) = true) (b : Binds K fd ps_wl [])
    (misi : mg "isinstance" = none) (mtuple : mg "tuple" = none) : FnOk P w K mg base CX0 (k + 1) f fd ps_wl (sp_wl K zs (n + 1)) := by
  have nd := sc_law_with_lets.nd
  refine F.ok sc_law_with_lets (fun vs H Q E h => ?_) (fun cdv A outer s H vs Q E hr h => ?_)
  · obtain ⟨d, c, pl, N, v, x, ps, rfl, _⟩ := h
    rfl
  obtain ⟨d, c, pl, N, v, x, ps, rfl, D, hN, Pp, hd, hn, hk, q⟩ := h
  have hf := hn.lay.2.2
  have hsx := hn.shaped (by omega)
  have hu65 : (A.deeper (envOfC "_law_with_lets" (defScope s_law_with_lets) s.heap.objs.size f cdv)).units + 65 < cLine := by
    have := hr.un
    omega
  have hu64 := hr.units
  refine ⟨_, (pss_cons (ps_if (PW.pt (pw_or (pt_not (pt_val (pe_callB call_isi (by rfl) misi boot_isinstance (pa_cons (pv 1) (pa_cons (pe_bltn (v := .ty "tuple") (by rfl) mtuple boot_tuple rfl) pa_nil))))) (pw_or1 (pt_cmpR (op_eqA hu64) (pv 1) (pe_tup pa_nil) (nomark _)))))
      (pss_one (ps_ret (pv 1)))
      pss_nil)
      (Evl.pss_cut (ps_if (PW.pt (pw_and (pt_cmpR (op_eqA hu64) (pe_ix ix_tup (pv 1) pe_int (fun _ _ => rfl)) pe_str (nomark _)) (pw_and1 (pt_cmpR op_eq (pe_call G_law_draw hr (by rfl) g_law_draw K_law_draw b_law_draw .nil pass0 (pa_cons (pv 0) (pa_cons pe_int pa_nil))) pe_int (nomark _)))))
      (pss_one (ps_ret (pe_tup (pa_cons pe_str (pa_cons (pe_call G_law_pick hr (by rfl) g_law_pick K_law_pick b_law_pick .nil pass0 (pa_cons (pv 0) (pa_cons (pv 2) pa_nil))) pa_nil)))))
      pss_nil)
      (Evl.pss_cut (ps_if (PW.pt (pw_and (pt_cmpR (op_inA hu65) (pe_ix ix_tup (pv 1) pe_int (fun _ _ => rfl)) (pe_tup (pa_cons pe_str (pa_cons pe_str (pa_cons pe_str (pa_cons pe_str pa_nil))))) (by rfl)) (pw_and1 (pt_cmpR op_eq (pe_call G_law_draw hr (by rfl) g_law_draw K_law_draw b_law_draw .nil pass0 (pa_cons (pv 0) (pa_cons pe_int pa_nil))) pe_int (nomark _)))))
      (pss_one (ps_set (i := 1) nd rfl (.inl rfl) (pe_op op_catA (pe_op op_catA (pe_slice L2.sl_tup (pv 1) po_none (po_some pe_int)) (pe_tup (pa_cons (pe_tup (pa_cons (pe_tup (pa_cons pe_str (pa_cons (pe_call G_law_pick hr (by rfl) g_law_pick K_law_pick b_law_pick .nil pass0 (pa_cons (pv 0) (pa_cons (pv 2) pa_nil))) pa_nil))) (pa_cons (pe_tup (pa_cons pe_str (pa_cons pe_int pa_nil))) pa_nil))) pa_nil))) (pe_slice L2.sl_tup (pv 1) (po_some pe_int) po_none))))
      pss_nil)
      (pss_one (ps_ret (pe_callTy call_tuple_of (by rfl) mtuple boot_tuple (pa_cons (pe_lc (own := [("_law_one", 3)]) (tt := tYes) (te := tCall (sp_wl K zs n) [] E0 (tCons (tVar 0) (tCons (tVar 3) (tCons (tVar 2) tNil)))) rfl nd (pi_tup (pv 1)) (blkOk_by (N := N_wl) (sc := defScope s_law_with_lets) (by decide +kernel))
        (fun _ _ _ _ _ => (pg_name (i := 3) nd rfl (Or.inl rfl))) (fun _ _ _ _ _ => pts_nil) (fun _ _ _ _ _ => (pe_call G hr (by rfl) g Kf b .nil pass0 (pa_cons (pv 0) (pa_cons (pv 3) (pa_cons (pv 2) pa_nil)))))) pa_nil))))))), ?_⟩
  have hw1 := wx_pos n
  have hwn : wx (n + 1) = 3 + 8 * wx n := rfl
  cases hn with
  | str n z hz => exact ⟨v, rfl, v, .ty "tuple", _, _, _, rfl, .ty "tuple", (dd_of (ok := fun _ => False) _ v hf hd).ty, kit_ts K z, _, rfl, iteT (iteT ⟨v, rfl, q H v _ Keep.refl (D.mono (by omega)) hd hf (Wq.refl _)⟩)⟩
  | int n z => exact ⟨v, rfl, v, .ty "tuple", _, _, _, rfl, .ty "tuple", (dd_of (ok := fun _ => False) _ v hf hd).ty, kit_tin K z, _, rfl, iteT (iteT ⟨v, rfl, q H v _ Keep.refl (D.mono (by omega)) hd hf (Wq.refl _)⟩)⟩
  | tup n xs hxs =>
  have hd0 := hd
  cases hd with
  | tup hs ha =>
  rename_i a vs
  refine ⟨.ref a, rfl, .ref a, .ty "tuple", _, _, _, rfl, .ty "tuple", (dd_of (ok := fun _ => False) _ _ hf hd0).ty, kit_t K xs, _, rfl, iteF ⟨.ref a, rfl, Nat.zero_le _, fun t0 nt0 => ?_⟩⟩
  have st := same_upd (o := .tup []) nt0
  have hd1 := dp_keep (KeepT.of st) _ _ hf hd0
  have D1 := D.same st
  have k1 : Keep d c H (upd H t0 (.tup [])) := Keep.of st
  have ht0 : Dd K (fun _ => False) (upd H t0 (.tup [])) (.ref t0) (.tuple []) := .tup (.inl (.inl upd_same)) .nil
  revert hd1 D1 k1 ht0
  generalize upd H t0 (.tup []) = H1
  intro hd1 D1 k1 ht0
  clear st
  refine ⟨.tuple xs, .tuple [], fun _ => False, okF, dd_of _ _ hf hd1, ht0, hsx, by decide +kernel, _, rfl, ?_⟩
  cases ha with
  | nil => exact iteT ⟨_, rfl, q H1 _ _ k1 (D1.mono (by omega)) hd1 hf (Wq.refl _)⟩
  | cons h1 r1 =>
  rename_i vh vr hh r
  obtain ⟨hh1, hh2, hh3⟩ := hk.head
  obtain ⟨hk8, hki⟩ := hk.items hi
  have hsh := (hxs hh List.mem_cons_self).shaped (by omega)
  have hfh := (hxs hh List.mem_cons_self).lay.2.2
  have hfr : flatDs r = true := by
    rw [flatD, flatDs, Bool.and_eq_true] at hf
    exact hf.2
  have pick : ∀ {H' : Hp} {M : Int} {Q : VK}, Deck H' d c M → M < 2 ^ 59 → Keep d c H H' → (∀ H'' p, Keep d c H' H'' → Deck H'' d c (M + 1) → 0 ≤ p → p ≤ 10000 → Q (.int p) H'') → sp_pick K [.ref d, .ref pl] H' Q E0 := fun {H' M Q} DM hM kk hQ => by
    have PM := Pp.keep kk
    refine .inl ⟨d, c, pl, M, ps.map V.int, rfl, DM, by omega, .inl (.inl PM.at'), ?_, by rw [List.length_map]; exact PM.len, PM.n0.1, PM.n0.2, fun H'' v k D' hv => ?_⟩
    · intro e
      exact PM.ne (List.map_eq_nil_iff.mp e)
    · obtain ⟨p, hp, rfl⟩ := List.mem_map.mp hv
      exact hQ H'' p k D' (PM.bd p hp).1 (PM.bd p hp).2
  have at_ : ∀ {H'}, Keep d c H H' → SqT K H' a (vh :: vr) ∧ Dp K H' vh hh ∧ DpAll K H' vr r := fun {H'} kk => ⟨(kk.t D).seqt hs, dp_keep (kk.t D) _ _ hfh h1, dp_keepAll (kk.t D) _ _ hfr r1⟩
  -- an int
  refine iteF ⟨fun σ' H' => σ' = [some (.ref d), some (.ref a), some (.ref pl), none] ∧ Keep d c H H' ∧ Deck H' d c (N + 1), ?_, ?_⟩
  · refine ⟨.ref a, rfl, a, _, 0, vh, rfl, rfl, (at_ k1).1, at0, hh, .str "int", fun _ => False, okF, dd_of _ _ hfh (at_ k1).2.1, .str _, hsh, by decide +kernel, _, rfl, ?_⟩
    cases ci : PyData.eqv hh (.str "int") with
    | false => exact iteF ⟨rfl, k1, D1.mono (by omega)⟩
    | true =>
      have e := eqv_str ci
      subst e
      obtain ⟨i, rfl⟩ := hh2 rfl
      refine iteT ⟨.ref d, rfl, d, c, N, 2, rfl, D1, by omega, by decide, by decide, fun H2 j k2 D2 j0 j1 => ⟨rfl, _, rfl, ?_⟩⟩
      rw [dec_int]
      cases (j == 1) with
      | false => exact iteF ⟨rfl, k1.trans k2, D2⟩
      | true =>
        refine iteT ⟨.ref d, rfl, .ref pl, rfl, pick D2 (by omega) (k1.trans k2) fun H3 p k3 D3 p0 p1 => ⟨h1000 (show 2 ≤ 1000 by decide), fun l nl => ?_⟩⟩
        have sl := same_upd (o := .tup [.str "let", .int p]) nl
        exact q _ _ _ ((k1.trans (k2.trans k3)).trans (Keep.of sl)) ((D3.same sl).mono (by omega)) (.tup (.inl (.inl upd_same)) (.cons (.str _) (.cons (.int _) .nil))) (by simp only [flatD, flatDs, Bool.and_self]) (wq_let hm p0 p1)
  rintro σ' H2 ⟨rfl, k2, D2⟩
  -- an aggregate
  refine ⟨fun σ' H' => ∃ (a' : Addr) (vs' : List V) (ys : List PyData), σ' = [some (.ref d), some (.ref a'), some (.ref pl), none] ∧ Keep d c H H' ∧ Deck H' d c (N + 3) ∧ SqT K H' a' vs' ∧ DpAll K H' vs' ys ∧ (∀ y, y ∈ ys → Nd n y) ∧ (∀ y, y ∈ ys → Kl zs y) ∧ ys.length ≤ 8 ∧ Wq zs (.tuple (hh :: r)) (.tuple ys), ?_, ?_⟩
  · refine ⟨.ref a, rfl, a, _, 0, vh, rfl, rfl, (at_ k2).1, at0, h1000 (show 4 ≤ 1000 by decide), fun t1 nt1 => ?_⟩
    have s3 := same_upd (o := .tup [.str "count", .str "sum", .str "most", .str "first"]) nt1
    have k3 := k2.trans (Keep.of s3)
    have D3 := D2.same s3
    have ht1 : Dd K (fun _ => False) (upd H2 t1 (.tup [.str "count", .str "sum", .str "most", .str "first"])) (.ref t1) (.tuple [.str "count", .str "sum", .str "most", .str "first"]) := .tup (.inl (.inl upd_same)) (.cons (.str _) (.cons (.str _) (.cons (.str _) (.cons (.str _) .nil))))
    revert k3 D3 ht1
    generalize upd H2 t1 (.tup [.str "count", .str "sum", .str "most", .str "first"]) = H3
    intro k3 D3 ht1
    clear s3
    refine ⟨hh, _, fun _ => False, okF, dd_of _ _ hfh (at_ k3).2.1, ht1, hsh, by decide +kernel, _, rfl, ?_⟩
    have same : ∀ {H'}, Keep d c H H' → Deck H' d c (N + 3) → ∃ (a' : Addr) (vs' : List V) (ys : List PyData), [some (V.ref d), some (.ref a), some (.ref pl), none] = [some (.ref d), some (.ref a'), some (.ref pl), none] ∧ Keep d c H H' ∧ Deck H' d c (N + 3) ∧ SqT K H' a' vs' ∧ DpAll K H' vs' ys ∧ (∀ y, y ∈ ys → Nd n y) ∧ (∀ y, y ∈ ys → Kl zs y) ∧ ys.length ≤ 8 ∧ Wq zs (.tuple (hh :: r)) (.tuple ys) :=
      fun {H'} kk DD => ⟨a, _, _, rfl, kk, DD, (at_ kk).1, .cons (at_ kk).2.1 (at_ kk).2.2, hxs, hki, hk8, Wq.refl _⟩
    show if (([.str "count", .str "sum", .str "most", .str "first"] : List PyData).any fun z => PyData.eqv z hh) = true then _ else _
    cases ca : (([.str "count", .str "sum", .str "most", .str "first"] : List PyData).any fun z => PyData.eqv z hh) with
    | false => exact iteF (same k3 (D3.mono (by omega)))
    | true =>
      obtain ⟨o, rfl, ho⟩ := any_agg ca
      obtain ⟨t, e, rest, rfl, hrest, hrow, b', m', hcx⟩ := hh3 o rfl ho
      have hn3 : 3 ≤ n := nd_row_le (hxs _ (List.mem_cons_of_mem _ (List.mem_cons_of_mem _ (List.mem_cons_of_mem _ hrow))))
      refine iteT ⟨.ref d, rfl, d, c, N + 1, 2, rfl, D3, by omega, by decide, by decide, fun H4 j k4 D4 j0 j1 => ⟨rfl, _, rfl, ?_⟩⟩
      have k04 := k3.trans k4
      rw [dec_int]
      cases (j == 1) with
      | false => exact iteF (same k04 (D4.mono (by omega)))
      | true =>
        cases r1 with
        | cons rt r1 =>
        cases r1 with
        | cons re r1 =>
        rename_i vt ve vrest
        refine iteT ⟨.ref a, rfl, 2, rfl, a, _, rfl, (at_ k04).1, no_two, fun p2 np2 => ?_⟩
        rw [cut_two]
        have s5 := same_upd (o := .tup [vh, vt]) np2
        have h5 : upd H4 p2 (.tup [vh, vt]) p2 = some (.tup [vh, vt]) := upd_same
        have k05 := k04.trans (Keep.of s5)
        have D5 := D4.same s5
        revert h5 k05 D5
        generalize upd H4 p2 (.tup [vh, vt]) = H5
        intro h5 k05 D5
        clear s5 np2
        refine ⟨.ref d, rfl, .ref pl, rfl, pick D5 (by omega) k05 fun H6 p k6 D6 p0 p1 => ⟨h1000 (show 2 ≤ 1000 by decide), fun l1 n1 => ⟨h1000 (show 2 ≤ 1000 by decide), fun l2 n2 => ⟨h1000 (show 2 ≤ 1000 by decide), fun l3 n3 => ⟨h1000 (show 1 ≤ 1000 by decide), fun l4 n4 => ?_⟩⟩⟩⟩⟩
        have h6 := (k6.t D5).1 _ _ h5
        have k06 := k05.trans k6
        have t1 := same_upd (o := .tup [.str "let", .int p]) n1
        have t2 := same_upd (o := .tup [.str "int", .int 3]) n2
        have t3 := same_upd (o := .tup [.ref l1, .ref l2]) n3
        have t4 := same_upd (o := .tup [.ref l3]) n4
        have b1 := new_tup (K := K) (.cons (.str "let") (.cons (.int p) .nil)) rfl n1
        have b2 := new_tup (K := K) (.cons (.str "int") (.cons (.int 3) .nil)) rfl n2
        have b3 := new_tup (K := K) (.cons (dp_keep (KeepT.of t2) _ _ rfl b1) (.cons b2 .nil)) rfl n3
        have hp := dp_keep (KeepT.of t4) _ _ rfl b3
        have h7 := (t1.trans (t2.trans (t3.trans t4))) _ _ h6
        have h74 : upd (upd (upd (upd H6 l1 (.tup [.str "let", .int p])) l2 (.tup [.str "int", .int 3])) l3 (.tup [.ref l1, .ref l2])) l4 (.tup [.ref l3]) l4 = some (.tup [.ref l3]) := upd_same
        have k07 := k06.trans (Keep.of (t1.trans (t2.trans (t3.trans t4))))
        have D7 := D6.same (t1.trans (t2.trans (t3.trans t4)))
        clear t1 t2 t3 t4 b1 b2 b3 n1 n2 n3 n4 h6
        revert hp h7 h74 k07 D7
        generalize upd (upd (upd (upd H6 l1 (.tup [.str "let", .int p])) l2 (.tup [.str "int", .int 3])) l3 (.tup [.ref l1, .ref l2])) l4 (.tup [.ref l3]) = H7
        intro hp h7 h74 k07 D7
        refine ⟨p2, l4, _, _, rfl, rfl, .inl (.inl h7), .inl (.inl h74), h1000 (show 2 + 1 ≤ 1000 by decide), fun z => (nomatch z), fun _ z => (nomatch z), fun _ _ p5 np5 => ?_⟩
        have s8 := same_upd (o := .tup ([vh, vt] ++ [.ref l3])) np5
        have h8 : upd H7 p5 (.tup ([vh, vt] ++ [.ref l3])) p5 = some (.tup ([vh, vt] ++ [.ref l3])) := upd_same
        have k08 := k07.trans (Keep.of s8)
        have D8 := D7.same s8
        have hp8 := dp_keep (KeepT.of s8) _ _ rfl hp
        revert h8 k08 D8 hp8
        generalize upd H7 p5 (.tup ([vh, vt] ++ [.ref l3])) = H8
        intro h8 k08 D8 hp8
        refine ⟨.ref a, rfl, 3, rfl, a, _, rfl, (at_ k08).1, no_three, fun p6 np6 => ?_⟩
        rw [cut_three]
        have s9 := same_upd (o := .tup vrest) np6
        have hl9 := dpAll_len r1
        have hvr : vrest ≠ [] := fun z => hrest (by rw [z] at hl9; exact List.eq_nil_of_length_eq_zero hl9.symm)
        have hrl : rest.length ≤ 8 := by
          rw [List.length_cons, List.length_cons, List.length_cons] at hk8
          omega
        refine ⟨p5, p6, _, _, rfl, rfl, .inl (.inl (s9 _ _ h8)), .inl (.inl upd_same), h1000 (by show _ + vrest.length ≤ 1000; show 3 + vrest.length ≤ 1000; omega), fun z => (nomatch z), fun _ z => absurd z hvr, fun _ _ p7 np7 => ?_⟩
        have s10 := same_upd (o := .tup ([vh, vt] ++ [.ref l3] ++ vrest)) np7
        have k10 := k08.trans (Keep.of (s9.trans s10))
        obtain ⟨_, a1, a2⟩ := at_ k10
        cases a2 with
        | cons a2 a3 =>
        cases a3 with
        | cons a3 a4 =>
        have wq := wq_agg (zs := zs) (t := .str t) (e := e) (rest := rest) hm ho p0 p1
        refine ⟨p7, _, .str o :: .str t :: pairD p :: rest, rfl, k10, (D8.same (s9.trans s10)).mono (by omega), .inl (.inl upd_same), .cons a1 (.cons a2 (.cons (dp_keep (KeepT.of (s9.trans s10)) _ _ flat_pair hp8) a4)), fun y hy => ?_, fun y hy => ?_, by simp only [List.length_cons] at hk8 ⊢; omega, wq⟩
        · rcases List.mem_cons.mp hy with rfl | hy
          · exact hxs _ List.mem_cons_self
          rcases List.mem_cons.mp hy with rfl | hy
          · exact hxs _ (List.mem_cons_of_mem _ List.mem_cons_self)
          rcases List.mem_cons.mp hy with rfl | hy
          · exact (nd_pair (n := 0)).mono hn3
          · exact hxs _ (List.mem_cons_of_mem _ (List.mem_cons_of_mem _ (List.mem_cons_of_mem _ hy)))
        · rcases List.mem_cons.mp hy with rfl | hy
          · exact hki _ List.mem_cons_self
          rcases List.mem_cons.mp hy with rfl | hy
          · exact hki _ (List.mem_cons_of_mem _ List.mem_cons_self)
          rcases List.mem_cons.mp hy with rfl | hy
          · exact kl_pair hm p0 p1
          · exact hki _ (List.mem_cons_of_mem _ (List.mem_cons_of_mem _ (List.mem_cons_of_mem _ hy)))
  rintro σ' H3 ⟨a', vs', ys, rfl, k3, D3, hs3, ha3, hnd, hkl, hl8, wq⟩
  have hlv := dpAll_len ha3
  have hfy : flatDs ys = true := (lay_of fun y hy => (hnd y hy).lay).2.2
  refine ⟨.ref a', rfl, a', rfl, ⟨_, hs3⟩, fun B nB => ?_⟩
  have hBd := D3.new nB
  refine lc_tup (xs := vs') (fun i H' => ∃ (us : List V) (ys' : List PyData), H' B = some (.lst us) ∧ DpAll K H' us ys' ∧ flatDs ys' = true ∧ Paired (Wq zs) (ys.take i) ys' ∧ Keep d c H H' ∧ KeepT H3 H' ∧ Deck H' d c (N + 3 + (i : Int) * wx n)) ?_ ?_ ?_ ?_
  · have sB := same_upd (o := .lst []) nB
    exact ⟨[], [], upd_same, .nil, by rw [flatDs], by rw [List.take_zero]; exact .nil, k3.trans (Keep.of sB), KeepT.of sB, (D3.same sB).mono (by rw [show ((0 : Nat) : Int) = 0 from rfl, Int.zero_mul]; omega)⟩
  · rintro i H' _ ⟨us, ys', _, _, _, _, _, kt, _⟩
    exact kt.seqt hs3
  · rintro i u H' hu ⟨us, ys', hB, hds, hfs, hpr, kk, kt, DD⟩
    obtain ⟨y, hy, hyd⟩ := dpAll_at ha3 hu
    have hym := List.mem_of_getElem? hy
    have hi8 : i < ys.length := (List.getElem?_eq_some_iff.mp hy).1
    have hmul : (i : Int) * wx n + wx n = ((i + 1 : Nat) : Int) * wx n := by rw [Int.natCast_add, Int.add_mul]; simp
    have hle : ((i + 1 : Nat) : Int) * wx n ≤ 8 * wx n := Int.mul_le_mul_of_nonneg_right (by omega) (by omega)
    have hulen : us.length = i := by
      have e1 := dpAll_len hds
      have e2 := Paired.length hpr
      rw [List.length_take] at e2
      omega
    refine ⟨rfl, .ref d, rfl, u, rfl, .ref pl, rfl, d, c, pl, _, u, y, ps, rfl, DD, by omega, Pp.keep kk, dp_keep kt _ _ (hnd y hym).lay.2.2 hyd, hnd y hym, hkl y hym, fun H4 v' x' k4 D4 hv' hf' wq' => ⟨us, k4 _ _ hBd.1 hBd.2 hB, small1000 (by omega), us ++ [v'], ys' ++ [x'], upd_same, ?_, ?_, ?_, ?_, ?_, ?_⟩⟩
    · have s5 : KeepT H4 (upd H4 B (.lst (us ++ [v']))) := KeepT.lst (k4 _ _ hBd.1 hBd.2 hB)
      exact dpAll_append (dp_keepAll ((k4.t DD).trans s5) _ _ hfs hds) (.cons (dp_keep s5 _ _ hf' hv') .nil)
    · exact flatDs_append hfs (by simp only [flatDs, hf', Bool.and_self])
    · rw [take_next hy]
      exact paired_append hpr (.cons wq' .nil)
    · exact fun b ob n1 n2 e => by rw [upd_ne (ne_of_none (k3 _ _ n1 n2 e) nB)]; exact (kk.trans k4) _ _ n1 n2 e
    · exact (kt.trans (k4.t DD)).trans (KeepT.lst (k4 _ _ hBd.1 hBd.2 hB))
    · exact (D4.upd hBd.1 hBd.2).mono (by omega)
  · rintro H4 ⟨us, ys', hB, hds, hfs, hpr, kk, kt, DD⟩
    rw [hlv, List.take_length] at hpr
    have hle : (vs'.length : Int) * wx n ≤ 8 * wx n := Int.mul_le_mul_of_nonneg_right (by omega) (by omega)
    refine ⟨B, us, rfl, .inl ⟨.inl (.inl hB), fun p np => ?_⟩⟩
    have sp := same_upd (o := .tup us) np
    exact q _ _ (.tuple ys') (kk.trans (Keep.of sp)) ((DD.same sp).mono (by omega)) (new_tup hds hfs np) (by rw [flatD]; exact hfs) (wq.trans (wq_step hpr))
theorem ok_wl {zs : List Str} (hi : ("in" : Str) ∈ zs) (hm : ("+" : Str) ∈ zs) {k : Nat} {f f_law_draw f_law_pick : Addr} {fd fd_law_draw fd_law_pick : FuncData} (F : Fun K "_law_with_lets" "_law_with_lets" s_law_with_lets f fd) (G_law_draw : FnOk P w K mg base CX0 k f_law_draw fd_law_draw ["_law_deck_here", "_law_most"] sp_draw)
    (g_law_draw : mg "_law_draw" = some (.ref f_law_draw)) (K_law_draw : PySem.W.keepIn K (.ref f_law_draw) = true) (b_law_draw : Binds K fd_law_draw ["_law_deck_here", "_law_most"] [])
    (G_law_pick : FnOk P w K mg base CX0 k f_law_pick fd_law_pick ["_law_deck_here", "_law_some"] (sp_pick K))
    (g_law_pick : mg "_law_pick" = some (.ref f_law_pick)) (K_law_pick : PySem.W.keepIn K (.ref f_law_pick) = true) (b_law_pick : Binds K fd_law_pick ["_law_deck_here", "_law_some"] [])
    (g : mg "_law_with_lets" = some (.ref f)) (Kf : PySem.W.keepIn K (.ref f) = true) (b : Binds K fd ps_wl [])
    (misi : mg "isinstance" = none) (mtuple : mg "tuple" = none) : ∀ n : Nat, n ≤ 60 → FnOk P w K mg base CX0 (k + n) f fd ps_wl (sp_wl K zs n)
  | 0, _ => ok_none fun vs H Q E h => by
    obtain ⟨_, _, _, _, _, _, _, _, _, _, _, _, hn, _⟩ := h
    cases hn
  | n + 1, hn => ok_wl_step hi hm (k := k + n) (by omega) F (G_law_draw.mono (by omega)) g_law_draw K_law_draw b_law_draw (G_law_pick.mono (by omega)) g_law_pick K_law_pick b_law_pick (ok_wl hi hm F G_law_draw g_law_draw K_law_draw b_law_draw G_law_pick g_law_pick K_law_pick b_law_pick g Kf b misi mtuple n (by omega)) g Kf b misi mtuple
end
end L20

namespace L20
open PySem PySem.Spec PyProof.Rows L2 GR WX AD
/-! ### the lets in an expression, as the law finds them -/
/-- the places of the lets, in order -/
def letsIn : Nat → PyData → List Int
  | 0, _ => []
  | n + 1, x => if isLet x = true then [posD x] else (items x).flatMap (letsIn n)
theorem letsIn_str (z : Str) : ∀ n, letsIn n (.str z) = []
  | 0 => rfl
  | _ + 1 => rfl
theorem letsIn_int (z : Int) : ∀ n, letsIn n (.int z) = []
  | 0 => rfl
  | _ + 1 => rfl
theorem mem_lets {n : Nat} {xs : List PyData} {p : Int} (h : isLet (.tuple xs) = false) : p ∈ letsIn (n + 1) (.tuple xs) ↔ ∃ y, y ∈ xs ∧ p ∈ letsIn n y := by
  rw [letsIn, h, if_neg Bool.false_ne_true]
  exact List.mem_flatMap
/-- a let at p among the parts -/
def LP (n : Nat) (x : PyData) (p : Int) : Prop := ∃ y, y ∈ flatP n x ∧ isLet y = true ∧ posD y = p
theorem lp_kids {n : Nat} {x : PyData} {p : Int} (h : isLet x = false) : LP (n + 1) x p ↔ ∃ y, y ∈ kids x ∧ LP n y p := by
  unfold LP
  rw [flatP]
  constructor
  · rintro ⟨y, hy, h1, h2⟩
    rcases List.mem_cons.mp hy with rfl | hy
    · rw [h] at h1; cases h1
    · obtain ⟨k, hk, hy⟩ := List.mem_flatMap.mp hy
      exact ⟨k, hk, y, hy, h1, h2⟩
  · rintro ⟨k, hk, y, hy, h1, h2⟩
    exact ⟨y, List.mem_cons_of_mem _ (List.mem_flatMap.mpr ⟨k, hk, hy⟩), h1, h2⟩
theorem lets_leaf {zs : List Str} {b : Bool} {y : PyData} {p : Int} {j n : Nat} (h : Cx zs [] b 1 y) : p ∈ letsIn (j + 1) y ↔ LP (n + 1) y p := by
  cases h with
  | int b n' i h1 h2 =>
    rw [mem_lets (isLet_f (by decide)), lp_kids (isLet_f (by decide)), kids_leaf (zs := zs) (.int i h1 h2)]
    refine ⟨?_, fun ⟨y, hy, _⟩ => (nomatch hy)⟩
    rintro ⟨y, hy, hp⟩
    simp only [List.mem_cons, List.not_mem_nil, or_false] at hy
    rcases hy with rfl | rfl
    · rw [letsIn_str] at hp; cases hp
    · rw [letsIn_int] at hp; cases hp
  | let_ b n' i g9 h1 h2 =>
    rw [letsIn, isLet_t rfl, if_pos rfl, LP, flatP, kids_leaf (zs := zs) (.let_ i h1 h2), List.flatMap_nil]
    constructor
    · intro h
      exact ⟨_, List.mem_cons_self, isLet_t rfl, (List.mem_singleton.mp h).symm⟩
    · rintro ⟨y, hy, _, e⟩
      rw [List.mem_singleton.mp hy] at e
      rw [← e]
      exact List.mem_cons_self
  | key n' =>
    rw [mem_lets (isLet_f (by decide)), lp_kids (isLet_f (by decide)), kids_leaf (zs := zs) .key]
    refine ⟨?_, fun ⟨y, hy, _⟩ => (nomatch hy)⟩
    rintro ⟨y, hy, hp⟩
    rw [List.mem_singleton.mp hy, letsIn_str] at hp
    cases hp
  | var b n z h1 => cases h1
  | cell b n t v x h1 h2 g => cases g
  | op b n o' x y h1 g1 g2 => cases g1
  | at_ b n x y g1 g2 => cases g1
  | iff b n x y z g1 g2 g3 => cases g1
  | agg b n o t p es vs ds g0 g1 g2 g3 g4 g5 g6 g7 => omega
theorem lets_row {t : Str} {p : Int} : ∀ n, letsIn n (rowX t) = []
  | 0 => rfl
  | 1 => rfl
  | 2 => rfl
  | n + 3 => rfl
theorem Cx.lets {zs : List Str} (hi : ("in" : Str) ∈ zs) {p : Int} : ∀ {n k : Nat} {b : Bool} {x : PyData}, Cx zs [] b n x → n + 1 ≤ k → (p ∈ letsIn k x ↔ LP n x p)
  | 0, _, _, _, h, _ => by cases h
  | n + 1, 0, _, _, _, h => by omega
  | n + 1, 1, _, _, _, h => by omega
  | n + 1, k + 2, b, x, h, hk => by
    have S : ∀ z, ¬ p ∈ letsIn (k + 1) (.str z) := fun z hp => by rw [letsIn_str] at hp; cases hp
    have hk1 : n + 1 ≤ k + 1 := by omega
    cases h with
    | int b n' i h1 h2 => exact lets_leaf (zs := zs) (.int b 0 i h1 h2)
    | let_ b n' i g9 h1 h2 => exact lets_leaf (zs := zs) (.let_ b 0 i g9 h1 h2)
    | key n' => exact lets_leaf (zs := zs) (.key 0)
    | var b n z h1 => cases h1
    | cell b n t v x h1 h2 g =>
      rw [mem_lets (isLet_f (by decide)), lp_kids (isLet_f (by decide)), kids_cell]
      constructor
      · rintro ⟨y, hy, hp⟩
        simp only [List.mem_cons, List.not_mem_nil, or_false] at hy
        rcases hy with rfl | rfl | rfl | rfl
        · exact absurd hp (S _)
        · exact absurd hp (S _)
        · exact ⟨_, List.mem_cons_self, (Cx.lets hi g hk1).mp hp⟩
        · exact absurd hp (S _)
      · rintro ⟨y, hy, hp⟩
        rw [List.mem_singleton.mp hy] at hp
        exact ⟨x, by simp, (Cx.lets hi g hk1).mpr hp⟩
    | op b n o' x y h1 g1 g2 =>
      have hL : isLet (.tuple [.str o', x, y]) = false := by
        simp only [ops5, List.mem_cons, List.not_mem_nil, or_false] at h1
        rcases h1 with rfl | rfl | rfl | rfl | rfl <;> exact isLet_f (by decide)
      rw [mem_lets hL, lp_kids hL, kids_op (by simp only [ops5, List.mem_cons, List.not_mem_nil, or_false] at h1; rcases h1 with rfl | rfl | rfl | rfl | rfl <;> decide)]
      constructor
      · rintro ⟨u, hy, hp⟩
        simp only [List.mem_cons, List.not_mem_nil, or_false] at hy
        rcases hy with rfl | rfl | rfl
        · exact absurd hp (S _)
        · exact ⟨_, by simp, (Cx.lets hi g1 hk1).mp hp⟩
        · exact ⟨_, by simp, (Cx.lets hi g2 hk1).mp hp⟩
      · rintro ⟨u, hy, hp⟩
        simp only [List.mem_cons, List.not_mem_nil, or_false] at hy
        rcases hy with rfl | rfl
        · exact ⟨_, by simp, (Cx.lets hi g1 hk1).mpr hp⟩
        · exact ⟨_, by simp, (Cx.lets hi g2 hk1).mpr hp⟩
    | at_ b n x y g1 g2 =>
      rw [mem_lets (isLet_f (by decide)), lp_kids (isLet_f (by decide)), kids_op (by decide)]
      constructor
      · rintro ⟨u, hy, hp⟩
        simp only [List.mem_cons, List.not_mem_nil, or_false] at hy
        rcases hy with rfl | rfl | rfl
        · exact absurd hp (S _)
        · exact ⟨_, by simp, (Cx.lets hi g1 hk1).mp hp⟩
        · exact ⟨_, by simp, (Cx.lets hi g2 hk1).mp hp⟩
      · rintro ⟨u, hy, hp⟩
        simp only [List.mem_cons, List.not_mem_nil, or_false] at hy
        rcases hy with rfl | rfl
        · exact ⟨_, by simp, (Cx.lets hi g1 hk1).mpr hp⟩
        · exact ⟨_, by simp, (Cx.lets hi g2 hk1).mpr hp⟩
    | iff b n x y z g1 g2 g3 =>
      rw [mem_lets (isLet_f (by decide)), lp_kids (isLet_f (by decide)), kids_if]
      constructor
      · rintro ⟨u, hy, hp⟩
        simp only [List.mem_cons, List.not_mem_nil, or_false] at hy
        rcases hy with rfl | rfl | rfl | rfl
        · exact absurd hp (S _)
        · exact ⟨_, by simp, (Cx.lets hi g1 hk1).mp hp⟩
        · exact ⟨_, by simp, (Cx.lets hi g2 hk1).mp hp⟩
        · exact ⟨_, by simp, (Cx.lets hi g3 hk1).mp hp⟩
      · rintro ⟨u, hy, hp⟩
        simp only [List.mem_cons, List.not_mem_nil, or_false] at hy
        rcases hy with rfl | rfl | rfl
        · exact ⟨_, by simp, (Cx.lets hi g1 hk1).mpr hp⟩
        · exact ⟨_, by simp, (Cx.lets hi g2 hk1).mpr hp⟩
        · exact ⟨_, by simp, (Cx.lets hi g3 hk1).mpr hp⟩
    | agg b n o t p0 es vs ds g0 g1 g2 g3 g4 g5 g6 g7 =>
      have hL : isLet (.tuple (.str o :: .str t :: .tuple es :: rowX t :: p0 :: (vs ++ ds))) = false := by
        simp only [aggk, List.mem_cons, List.not_mem_nil, or_false, Prod.mk.injEq] at g1
        rcases g1 with ⟨rfl, _⟩ | ⟨rfl, _⟩ | ⟨rfl, _⟩ | ⟨rfl, _⟩ <;> exact isLet_f (by decide)
      obtain ⟨m, rfl⟩ : ∃ m, n = m + 1 := ⟨n - 1, by omega⟩
      obtain ⟨j, rfl⟩ : ∃ j, k = j + 1 := ⟨k - 1, by omega⟩
      have hE : isLet (.tuple es) = false := by
        cases es with
        | nil => rfl
        | cons e es =>
          obtain ⟨w, r, rfl⟩ := (g4 e List.mem_cons_self).one
          rfl
      rw [mem_lets hL, lp_kids hL, kids_agg (by rw [List.length_cons, List.length_cons, List.length_append]; exact (aggk_aggs g1).1)]
      constructor
      · rintro ⟨u, hy, hp⟩
        rcases List.mem_cons.mp hy with rfl | hy
        · exact absurd hp (S _)
        rcases List.mem_cons.mp hy with rfl | hy
        · exact absurd hp (S _)
        rcases List.mem_cons.mp hy with rfl | hy
        · obtain ⟨e, he, hp⟩ := (mem_lets hE).mp hp
          exact ⟨e, List.mem_append_left _ he, (lets_leaf (g4 e he)).mp hp⟩
        rcases List.mem_cons.mp hy with rfl | hy
        · rw [lets_row (p := p)] at hp; cases hp
        rcases List.mem_cons.mp hy with rfl | hy
        · exact ⟨_, List.mem_append_right _ (List.mem_cons_of_mem _ List.mem_cons_self), (Cx.lets hi g5 hk1).mp hp⟩
        refine ⟨u, List.mem_append_right _ (List.mem_cons_of_mem _ (List.mem_cons_of_mem _ hy)), ?_⟩
        rcases List.mem_append.mp hy with hy | hy
        · exact (Cx.lets hi (g6 u hy) hk1).mp hp
        · exact (Cx.lets hi (g7 u hy) hk1).mp hp
      · rintro ⟨u, hy, hp⟩
        rcases List.mem_append.mp hy with hy | hy
        · refine ⟨.tuple es, by simp, (mem_lets hE).mpr ⟨u, hy, (lets_leaf (g4 u hy)).mpr hp⟩⟩
        rcases List.mem_cons.mp hy with rfl | hy
        · exfalso
          have hr : Cx zs [] true (m + 1) (rowX t) := Cx.mono (.cell true 1 t "in" _ g2 hi (.key 0)) g0
          have := (Cx.lets hi (k := m + 2) hr (by omega)).mpr hp
          rw [lets_row (p := p)] at this
          cases this
        rcases List.mem_cons.mp hy with rfl | hy
        · exact ⟨_, by simp, (Cx.lets hi g5 hk1).mpr hp⟩
        refine ⟨u, by simp only [List.mem_cons]; exact .inr (.inr (.inr (.inr (.inr hy)))), ?_⟩
        rcases List.mem_append.mp hy with hy | hy
        · exact (Cx.lets hi (g6 u hy) hk1).mpr hp
        · exact (Cx.lets hi (g7 u hy) hk1).mpr hp
end L20

namespace L20
open PySem PySem.Spec PyProof.Rows L2 GR WX AD
/-- how many lets there are at most -/
def lc : Nat → Nat
  | 0 => 0
  | n + 1 => 2 + 3 * lc n
theorem leaf_len {zs : List Str} {b : Bool} {y : PyData} (h : Cx zs [] b 1 y) : ∀ k, (letsIn k y).length ≤ 1
  | 0 => Nat.zero_le _
  | k + 1 => by
    cases h with
    | int b n' i h1 h2 =>
      rw [letsIn, isLet_f (by decide), if_neg Bool.false_ne_true]
      show ([PyData.str "int", .int i].flatMap (letsIn k)).length ≤ 1
      rw [List.flatMap_cons, List.flatMap_cons, List.flatMap_nil, letsIn_str, letsIn_int]
      exact Nat.zero_le _
    | let_ b n' i g9 h1 h2 =>
      rw [letsIn, isLet_t rfl, if_pos rfl]
      exact Nat.le_refl _
    | key n' =>
      rw [letsIn, isLet_f (by decide), if_neg Bool.false_ne_true]
      show ([PyData.str "key"].flatMap (letsIn k)).length ≤ 1
      rw [List.flatMap_cons, List.flatMap_nil, letsIn_str]
      exact Nat.zero_le _
    | var b n z h1 => cases h1
    | cell b n t v x h1 h2 g => cases g
    | op b n o' x y h1 g1 g2 => cases g1
    | at_ b n x y g1 g2 => cases g1
    | iff b n x y z g1 g2 g3 => cases g1
    | agg b n o t p es vs ds g0 g1 g2 g3 g4 g5 g6 g7 => omega
theorem flatI_len {f : PyData → List Int} {b : Nat} : ∀ {l : List PyData}, (∀ y, y ∈ l → (f y).length ≤ b) → (l.flatMap f).length ≤ l.length * b
  | [], _ => by rw [List.flatMap_nil]; exact Nat.zero_le _
  | x :: l, h => by
    have h1 := h x List.mem_cons_self
    have h2 := flatI_len fun y hy => h y (List.mem_cons_of_mem _ hy)
    rw [List.flatMap_cons, List.length_append, List.length_cons, Nat.add_mul]
    omega
theorem Cx.letlen {zs : List Str} : ∀ {n : Nat} {b : Bool} {x : PyData}, Cx zs [] b n x → ∀ k, (letsIn k x).length ≤ lc n
  | 0, _, _, h, _ => by cases h
  | n + 1, _, _, _, 0 => Nat.zero_le _
  | n + 1, b, x, h, k + 1 => by
    have key1 : 1 ≤ lc (n + 1) := by show 1 ≤ 2 + 3 * lc n; omega
    have hl : lc (n + 1) = 2 + 3 * lc n := rfl
    cases h with
    | int b n' i h1 h2 => exact Nat.le_trans (leaf_len (zs := zs) (.int b 0 i h1 h2) (k + 1)) key1
    | let_ b n' i g9 h1 h2 => exact Nat.le_trans (leaf_len (zs := zs) (.let_ b 0 i g9 h1 h2) (k + 1)) key1
    | key n' => exact Nat.le_trans (leaf_len (zs := zs) (.key 0) (k + 1)) key1
    | var b n z h1 => cases h1
    | cell b n t v x h1 h2 g =>
      have := Cx.letlen g k
      rw [letsIn, isLet_f (by decide), if_neg Bool.false_ne_true]
      show ([PyData.str "cell", .str t, x, .str v].flatMap (letsIn k)).length ≤ _
      simp only [List.flatMap_cons, List.flatMap_nil, List.length_append, letsIn_str, List.length_nil]
      omega
    | op b n o' x y h1 g1 g2 =>
      have e1 := Cx.letlen g1 k
      have e2 := Cx.letlen g2 k
      have hL : isLet (.tuple [.str o', x, y]) = false := by
        simp only [ops5, List.mem_cons, List.not_mem_nil, or_false] at h1
        rcases h1 with rfl | rfl | rfl | rfl | rfl <;> exact isLet_f (by decide)
      rw [letsIn, hL, if_neg Bool.false_ne_true]
      show ([PyData.str o', x, y].flatMap (letsIn k)).length ≤ _
      simp only [List.flatMap_cons, List.flatMap_nil, List.length_append, letsIn_str, List.length_nil]
      omega
    | at_ b n x y g1 g2 =>
      have e1 := Cx.letlen g1 k
      have e2 := Cx.letlen g2 k
      rw [letsIn, isLet_f (by decide), if_neg Bool.false_ne_true]
      show ([PyData.str "at", x, y].flatMap (letsIn k)).length ≤ _
      simp only [List.flatMap_cons, List.flatMap_nil, List.length_append, letsIn_str, List.length_nil]
      omega
    | iff b n x y z g1 g2 g3 =>
      have e1 := Cx.letlen g1 k
      have e2 := Cx.letlen g2 k
      have e3 := Cx.letlen g3 k
      rw [letsIn, isLet_f (by decide), if_neg Bool.false_ne_true]
      show ([PyData.str "if", x, y, z].flatMap (letsIn k)).length ≤ _
      simp only [List.flatMap_cons, List.flatMap_nil, List.length_append, letsIn_str, List.length_nil]
      omega
    | agg b n o t p0 es vs ds g0 g1 g2 g3 g4 g5 g6 g7 =>
      have hL : isLet (.tuple (.str o :: .str t :: .tuple es :: rowX t :: p0 :: (vs ++ ds))) = false := by
        simp only [aggk, List.mem_cons, List.not_mem_nil, or_false, Prod.mk.injEq] at g1
        rcases g1 with ⟨rfl, _⟩ | ⟨rfl, _⟩ | ⟨rfl, _⟩ | ⟨rfl, _⟩ <;> exact isLet_f (by decide)
      have hvd : vs.length + ds.length ≤ 2 := (aggk_aggs g1).2
      have e5 := Cx.letlen g5 k
      have e6 : ((vs ++ ds).flatMap (letsIn k)).length ≤ 2 * lc n := by
        refine Nat.le_trans (flatI_len (b := lc n) fun y hy => ?_) (Nat.mul_le_mul_right _ (by rw [List.length_append]; exact hvd))
        rcases List.mem_append.mp hy with hy | hy
        · exact Cx.letlen (g6 y hy) k
        · exact Cx.letlen (g7 y hy) k
      have e4 : (letsIn k (.tuple es)).length ≤ 2 := by
        cases k with
        | zero => exact Nat.zero_le _
        | succ k =>
          rw [letsIn]
          split
          · exact (by decide : 1 ≤ 2)
          · refine Nat.le_trans (flatI_len (b := 1) fun y hy => leaf_len (g4 y hy) k) ?_
            show es.length * 1 ≤ 2
            omega
      rw [letsIn, hL, if_neg Bool.false_ne_true]
      show ((PyData.str o :: .str t :: .tuple es :: rowX t :: p0 :: (vs ++ ds)).flatMap (letsIn k)).length ≤ _
      simp only [List.flatMap_cons, List.length_append, letsIn_str, List.length_nil, lets_row (p := 0)]
      omega
theorem eqv_let {h : PyData} {r : List PyData} : PyData.eqv h (.str "let") = isLet (.tuple (h :: r)) := by
  cases h with
  | str z =>
    rw [Bool.eq_iff_iff]
    simp only [PyData.eqv, isLet, beq_iff_eq, decide_eq_true_eq]
  | _ => simp [PyData.eqv, isLet]
theorem Kl.letF {zs : List Str} {h : PyData} {r : List PyData} (k : Kl zs (.tuple (h :: r))) (e : isLet (.tuple (h :: r)) = true) : ∃ i, r = [.int i] := by
  rcases k with ⟨b, m, k⟩ | ⟨_, k⟩ | ⟨_, k⟩ | ⟨b, ys, k, h1, h2⟩
  · generalize hx : PyData.tuple (h :: r) = x at k
    have no : ∀ {w : Str} {C : Prop} {ds}, w ≠ "let" → isLet (.tuple (.str w :: ds)) = true → C := fun hw he => by rw [isLet_f hw] at he; cases he
    cases k with
    | int b n i h1 h2 => cases hx; exact no (by decide) e
    | let_ b n i g9 h1 h2 => cases hx; exact ⟨i, rfl⟩
    | key n => cases hx; exact no (by decide) e
    | var b n z h1 => cases h1
    | cell b n t v x h1 h2 g => cases hx; exact no (by decide) e
    | op b n o' x y h1 g1 g2 =>
      cases hx
      simp only [ops5, List.mem_cons, List.not_mem_nil, or_false] at h1
      rcases h1 with rfl | rfl | rfl | rfl | rfl <;> exact no (by decide) e
    | at_ b n x y g1 g2 => cases hx; exact no (by decide) e
    | iff b n x y z g1 g2 g3 => cases hx; exact no (by decide) e
    | agg b n o t p es vs ds g0 g1 g2 g3 g4 g5 g6 g7 =>
      cases hx
      simp only [aggk, List.mem_cons, List.not_mem_nil, or_false, Prod.mk.injEq] at g1
      rcases g1 with ⟨rfl, _⟩ | ⟨rfl, _⟩ | ⟨rfl, _⟩ | ⟨rfl, _⟩ <;> exact no (by decide) e
  · cases k
  · cases k
  · cases k
    obtain ⟨w, r', rfl⟩ := (h2 h List.mem_cons_self).one
    cases e
theorem flat_take {xs : List PyData} {n i : Nat} : ((xs.take i).flatMap (letsIn n)).length ≤ (xs.flatMap (letsIn n)).length := by
  have : xs.flatMap (letsIn n) = (xs.take i).flatMap (letsIn n) ++ (xs.drop i).flatMap (letsIn n) := by rw [← List.flatMap_append, List.take_append_drop]
  rw [this, List.length_append]
  omega
section
variable {P : Program} {w : World} {K : PySem.W.Frag} {mg : Str → Option Value} {base : Heap}
abbrev s_law_lets_in : Stmt := topS 28
abbrev N_li : List Str := ["_law_thing", "_law_found", "_law_one"]
theorem sc_law_lets_in : FnScope N_li ["_law_thing"] (defScope s_law_lets_in) := ⟨rfl, rfl, rfl, by decide +kernel, rfl, by decide +kernel, by decide +kernel⟩
def sp_li (K : PySem.W.Frag) (zs : List Str) (n : Nat) : Sp := fun vs H Q _ => ∃ (v : V) (x : PyData), vs = [v] ∧ Dp K H v x ∧ Nd n x ∧ Kl zs x ∧ (letsIn n x).length ≤ 1000 ∧ ∀ H' p, Same H H' → H' p = some (.lst ((letsIn n x).map V.int)) → Q (.ref p) H'
theorem ok_li_step {zs : List Str} (hi : ("in" : Str) ∈ zs) {n k : Nat} (hn60 : n ≤ 60) {f : Addr} {fd : FuncData} (F : Fun K "_law_lets_in" "_law_lets_in" s_law_lets_in f fd)
    (G : FnOk P w K mg base CX0 k f fd ["_law_thing"] (sp_li K zs n)) (g : mg "_law_lets_in" = some (.ref f)) (Kf : PySem.W.keepIn K (.ref f) = true) (b : Binds K fd ["_law_thing"] [])
    (misi : mg "isinstance" = none) (mtuple : mg "tuple" = none) : FnOk P w K mg base CX0 (k + 1) f fd ["_law_thing"] (sp_li K zs (n + 1)) := by
  have nd := sc_law_lets_in.nd
  refine F.ok sc_law_lets_in (fun vs H Q E h => ?_) (fun cdv A outer s H vs Q E hr h => ?_)
  · obtain ⟨v, x, rfl, _⟩ := h
    rfl
  obtain ⟨v, x, rfl, hd, hn, hk, hl, q⟩ := h
  have hf := hn.lay.2.2
  have hsx := hn.shaped (by omega)
  have hu64 := hr.units
  refine ⟨_, (pss_cons (ps_if (PW.pt (pw_or (pt_not (pt_val (pe_callB call_isi (by rfl) misi boot_isinstance (pa_cons (pv 0) (pa_cons (pe_bltn (v := .ty "tuple") (by rfl) mtuple boot_tuple rfl) pa_nil))))) (pw_or1 (pt_cmpR (op_eqA hu64) (pv 0) (pe_tup pa_nil) (nomark _)))))
      (pss_one (ps_ret (pe_lst pa_nil)))
      pss_nil)
      (pss_cons (ps_if (pt_cmpR (op_eqA hu64) (pe_ix ix_tup (pv 0) pe_int (fun _ _ => rfl)) pe_str (nomark _))
      (pss_one (ps_ret (pe_lst (pa_cons (pe_ix ix_tup (pv 0) pe_int (fun _ _ => rfl)) pa_nil))))
      pss_nil)
      (pss_cons (ps_set (i := 1) nd rfl (.inl rfl) (pe_lst pa_nil))
      (pss_cons (ps_for PassesOwn.never rfl (pi_tup (pv 0)) (pg_name (i := 2) nd rfl (Or.inl rfl))
        (pss_one (ps_set (i := 1) nd rfl (.inl rfl) (pe_op op_cat (pv 1) (pe_call G hr (by rfl) g Kf b .nil pass0 (pa_cons (pv 2) pa_nil))))))
      (pss_one (ps_ret (pv 1))))))), ?_⟩
  cases hn with
  | str n z hz => exact ⟨v, rfl, v, .ty "tuple", _, _, _, rfl, .ty "tuple", (dd_of (ok := fun _ => False) _ v hf hd).ty, kit_ts K z, _, rfl, iteT (iteT ⟨Nat.zero_le _, fun p np => q _ p (same_upd np) upd_same⟩)⟩
  | int n z => exact ⟨v, rfl, v, .ty "tuple", _, _, _, rfl, .ty "tuple", (dd_of (ok := fun _ => False) _ v hf hd).ty, kit_tin K z, _, rfl, iteT (iteT ⟨Nat.zero_le _, fun p np => q _ p (same_upd np) upd_same⟩)⟩
  | tup n xs hxs =>
  have hd0 := hd
  cases hd with
  | tup hs ha =>
  rename_i a vs
  refine ⟨.ref a, rfl, .ref a, .ty "tuple", _, _, _, rfl, .ty "tuple", (dd_of (ok := fun _ => False) _ _ hf hd0).ty, kit_t K xs, _, rfl, iteF ⟨.ref a, rfl, Nat.zero_le _, fun t0 nt0 => ?_⟩⟩
  have st := same_upd (o := .tup []) nt0
  have ht0 : Dd K (fun _ => False) (upd H t0 (.tup [])) (.ref t0) (.tuple []) := .tup (.inl (.inl upd_same)) .nil
  revert st ht0
  generalize upd H t0 (.tup []) = H1
  intro st ht0
  have hd1 := dp_keep (KeepT.of st) _ _ hf hd0
  refine ⟨.tuple xs, .tuple [], fun _ => False, okF, dd_of _ _ hf hd1, ht0, hsx, by decide +kernel, _, rfl, ?_⟩
  cases ha with
  | nil => exact iteT ⟨Nat.zero_le _, fun p np => q _ p (st.trans (same_upd np)) upd_same⟩
  | cons h1 r1 =>
  rename_i vh vr hh r
  have hsh := (hxs hh List.mem_cons_self).shaped (by omega)
  have hfh := (hxs hh List.mem_cons_self).lay.2.2
  have hfr : flatDs r = true := by
    rw [flatD, flatDs, Bool.and_eq_true] at hf
    exact hf.2
  have at_ : ∀ {H'}, Same H H' → SqT K H' a (vh :: vr) ∧ Dp K H' vh hh ∧ DpAll K H' vr r := fun {H'} kk => ⟨(KeepT.of kk).seqt hs, dp_keep (KeepT.of kk) _ _ hfh h1, dp_keepAll (KeepT.of kk) _ _ hfr r1⟩
  refine iteF ⟨.ref a, rfl, a, _, 0, vh, rfl, rfl, (at_ st).1, at0, hh, .str "let", fun _ => False, okF, dd_of _ _ hfh (at_ st).2.1, .str _, hsh, by decide +kernel, _, rfl, ?_⟩
  rw [eqv_let (r := r)]
  cases ci : isLet (.tuple (hh :: r)) with
  | true =>
    obtain ⟨i, rfl⟩ := hk.letF ci
    rw [letsIn, ci, if_pos rfl] at q
    have r1' := (at_ st).2.2
    cases r1' with
    | cons a1 a2 =>
    cases a1
    cases a2
    refine iteT ⟨.ref a, rfl, a, _, 1, .int i, rfl, rfl, (at_ st).1, at1, h1000 (show 1 ≤ 1000 by decide), fun p np => q _ p (st.trans (same_upd np)) upd_same⟩
  | false =>
  rw [letsIn, ci, if_neg Bool.false_ne_true] at q hl
  replace q : ∀ (H' : Hp) (p : Addr), Same H H' → H' p = some (.lst (((hh :: r).flatMap (letsIn n)).map V.int)) → Q (.ref p) H' := q
  replace hl : ((hh :: r).flatMap (letsIn n)).length ≤ 1000 := hl
  have hki := (hk.items hi).2
  have haa : DpAll K H (vh :: vr) (hh :: r) := .cons h1 r1
  have hff : flatDs (hh :: r) = true := by rw [flatD] at hf; exact hf
  have hlen := dpAll_len haa
  refine iteF ⟨Nat.zero_le _, fun fl nfl => ⟨.ref a, rfl, a, rfl, ⟨_, (same_upd nfl |> fun sx => (at_ (st.trans sx)).1)⟩, ?_⟩⟩
  have sf := same_upd (o := .lst []) nfl
  refine for_tup (xs := vh :: vr) (fun i σ H' => ∃ (fl : Addr) (y2 : Option V), σ = [some (.ref a), some (.ref fl), y2] ∧ H' fl = some (.lst ((((hh :: r).take i).flatMap (letsIn n)).map V.int)) ∧ Same H H') ?_ ?_ ?_ ?_
  · exact ⟨fl, none, rfl, upd_same, st.trans sf⟩
  · rintro i σ H' _ ⟨_, _, rfl, _, ss⟩
    exact (at_ ss).1
  · rintro i u σ H' hu ⟨fl', y2, rfl, hfl, ss⟩
    obtain ⟨y, hy, hyd⟩ := dpAll_at (dp_keepAll (KeepT.of ss) _ _ hff haa) hu
    have hym := List.mem_of_getElem? hy
    have e2 : ((hh :: r).take (i + 1)).flatMap (letsIn n) = ((hh :: r).take i).flatMap (letsIn n) ++ letsIn n y := by
      rw [take_next hy, List.flatMap_append, List.flatMap_cons, List.flatMap_nil, List.append_nil]
    have e3 := flat_take (xs := hh :: r) (n := n) (i := i + 1)
    rw [e2, List.length_append] at e3
    refine ⟨.ref fl', rfl, u, rfl, u, y, rfl, hyd, hxs y hym, hki y hym, by omega, fun H2 p s2 hp => ⟨fl', p, _, _, rfl, rfl, s2 _ _ hfl, hp, h1000 (by rw [List.length_map, List.length_map]; omega), fun p2 np2 => ⟨p2, some u, rfl, ?_, ss.trans (s2.trans (same_upd np2))⟩⟩⟩
    rw [e2, List.map_append]
    exact upd_same
  · rintro σ H' ⟨fl', y2, rfl, hfl, ss⟩
    rw [hlen, List.take_length] at hfl
    exact ⟨.ref fl', rfl, q H' fl' ss hfl⟩
theorem ok_li {zs : List Str} (hi : ("in" : Str) ∈ zs) {k : Nat} {f : Addr} {fd : FuncData} (F : Fun K "_law_lets_in" "_law_lets_in" s_law_lets_in f fd)
    (g : mg "_law_lets_in" = some (.ref f)) (Kf : PySem.W.keepIn K (.ref f) = true) (b : Binds K fd ["_law_thing"] [])
    (misi : mg "isinstance" = none) (mtuple : mg "tuple" = none) : ∀ n : Nat, n ≤ 60 → FnOk P w K mg base CX0 (k + n) f fd ["_law_thing"] (sp_li K zs n)
  | 0, _ => ok_none fun vs H Q E h => by
    obtain ⟨_, _, _, _, hn, _⟩ := h
    cases hn
  | n + 1, hn => ok_li_step hi (k := k + n) (by omega) F (ok_li hi F g Kf b misi mtuple n (by omega)) g Kf b misi mtuple
end
end L20

namespace L20
open PySem PySem.Spec PyProof.Rows L2 GR WX AD
def plK (es : List En) : List (Key × V) := es.map fun e => (.inl e.1, e.2.1)
theorem putK_new {acc : List (Key × V)} {k : Key} {v : V} (h : ∀ q, q ∈ acc → q.1 ≠ k) : putK acc k v = acc ++ [(k, v)] := by
  unfold putK
  rw [if_neg]
  intro z
  obtain ⟨q, hq, e⟩ := List.any_eq_true.mp z
  exact h q hq (of_decide_eq_true e)
theorem merge_new : ∀ (more acc : List (Key × V)), (∀ p, p ∈ more → ∀ q, q ∈ acc → q.1 ≠ p.1) → (more.map (·.1)).Nodup → mergeK acc more = acc ++ more
  | [], acc, _, _ => (List.append_nil _).symm
  | p :: more, acc, h, hn => by
    rw [List.map_cons, List.nodup_cons] at hn
    show mergeK (putK acc p.1 p.2) more = _
    rw [putK_new (h p List.mem_cons_self), merge_new more (acc ++ [(p.1, p.2)]) (fun x hx q hq => ?_) hn.2, List.append_assoc]
    · rfl
    · rcases List.mem_append.mp hq with hq | hq
      · exact h x (List.mem_cons_of_mem _ hx) q hq
      · rw [List.mem_singleton.mp hq]
        intro z
        exact hn.1 (List.mem_map.mpr ⟨x, hx, z.symm⟩)
theorem plK_merge {es : List En} (ha : (es.map (·.1)).Pairwise (· < ·)) : mergeK [] (plK es) = plK es := by
  have : (plK es).map (·.1) = (es.map (·.1)).map Sum.inl := by
    unfold plK
    rw [List.map_map, List.map_map]
    rfl
  have hn : ((plK es).map (·.1)).Nodup := by
    rw [this]
    refine List.pairwise_map.mpr (ha.imp fun {a b} h z => ?_)
    injection z with z
    omega
  exact merge_new (plK es) [] (fun p _ q hq => absurd hq (by simp)) hn
theorem plK_val : ∀ (es : List En) (n : Int), (valV (plK es) (.inl n)).getD .non = stAt es n
  | [], n => rfl
  | e :: es, n => by
    have ih := plK_val es n
    show (valV ((.inl e.1, e.2.1) :: plK es) (.inl n)).getD .non = _
    rw [stAt]
    by_cases c : e.1 = n
    · rw [if_pos c, valV_pos (by show (Sum.inl e.1 : Key) = _; rw [c])]
      rfl
    · rw [if_neg c, valV_neg (fun z => c (by injection z)), ih]
theorem ens_pairs {K : PySem.W.Frag} {H : Hp} : ∀ {rs : List Addr} {es : List En}, EnsOk K H rs es → Paired (fun p kv => SqT K H p [kV kv.1, kv.2]) rs (plK es)
  | _, _, .nil => .nil
  | _, _, .cons h t => .cons (.inl (.inl h.1)) (ens_pairs t)
/-- a let stands at i -/
def stLet (es : List En) (i : Int) : Bool := es.any fun e => isLet e.2.2 && decide (e.1 = i)
theorem letAt_eq {es : List En} {n i : Int} : letAt es n i = (decide (i < n) && stLet es i) := by
  unfold letAt stLet
  induction es with
  | nil => rw [List.any_nil, List.any_nil, Bool.and_false]
  | cons e es ih =>
    rw [List.any_cons, List.any_cons, ih]
    by_cases c : e.1 = i
    · rw [decide_eq_true c, Bool.and_true, Bool.and_true, c]
      cases isLet e.2.2 <;> cases decide (i < n) <;> rfl
    · rw [decide_eq_false c, Bool.and_false, Bool.and_false, Bool.false_or, Bool.false_or]
theorem plK_at : ∀ (es : List En) (i : Int), (es.map (·.1)).Pairwise (· < ·) → (valV (plK es) (.inl i) = none ∧ stLet es i = false) ∨ ∃ e, e ∈ es ∧ valV (plK es) (.inl i) = some e.2.1 ∧ stLet es i = isLet e.2.2
  | [], i, _ => .inl ⟨rfl, rfl⟩
  | e :: es, i, h => by
    rw [List.map_cons, List.pairwise_cons] at h
    have es' : stLet (e :: es) i = ((isLet e.2.2 && decide (e.1 = i)) || stLet es i) := rfl
    by_cases c : e.1 = i
    · refine .inr ⟨e, List.mem_cons_self, valV_pos (by show (Sum.inl e.1 : Key) = _; rw [c]), ?_⟩
      have no : stLet es i = false := by
        unfold stLet
        rw [List.any_eq_false]
        intro y hy
        have := h.1 y.1 (List.mem_map.mpr ⟨y, hy, rfl⟩)
        rw [decide_eq_false (by omega), Bool.and_false]
        exact Bool.false_ne_true
      rw [es', no, decide_eq_true c, Bool.and_true, Bool.or_false]
    · have e1 : valV (plK (e :: es)) (.inl i) = valV (plK es) (.inl i) := valV_neg (fun z => c (by injection z))
      have e2 : stLet (e :: es) i = stLet es i := by rw [es', decide_eq_false c, Bool.and_false, Bool.false_or]
      rcases plK_at es i h.2 with ⟨h1, h2⟩ | ⟨y, hy, h1, h2⟩
      · exact .inl ⟨e1.trans h1, e2.trans h2⟩
      · exact .inr ⟨y, List.mem_cons_of_mem _ hy, e1.trans h1, e2.trans h2⟩
/-- what the law says -/
def lawMay (k : Nat) (es : List En) (lm n : Int) (x : PyData) : Bool := decide (n ≤ lm) && (letsIn k x).all fun i => decide (i < n) && stLet es i
theorem may_eq {zs : List Str} (hi : ("in" : Str) ∈ zs) {m k : Nat} {es : List En} {lm n : Int} {x : PyData} (h : Cx zs [] false m x) (hk : m + 1 ≤ k) (hn : 0 ≤ n) : mayD m es lm n x = lawMay k es lm n x := by
  unfold mayD lawMay
  rw [h.closed hi, Bool.true_and, decide_eq_true hn, Bool.true_and]
  congr 1
  rw [Bool.eq_iff_iff, List.all_eq_true, List.all_eq_true]
  constructor
  · intro g i hi'
    obtain ⟨y, hy, h1, h2⟩ := (h.lets hi hk).mp hi'
    rw [← letAt_eq, ← h2]
    exact g y (List.mem_filter.mpr ⟨lvls_mem.mpr hy, h1⟩)
  · intro g y hy
    obtain ⟨hy, h1⟩ := List.mem_filter.mp hy
    rw [letAt_eq]
    exact g _ ((h.lets hi hk).mpr ⟨y, lvls_mem.mp hy, h1, rfl⟩)
theorem ens_mem {K : PySem.W.Frag} {H : Hp} : ∀ {rs : List Addr} {es : List En}, EnsOk K H rs es → ∀ e, e ∈ es → SV K H e.2.1 e.2.2
  | _, _, .nil, e, he => (nomatch he)
  | _, _, .cons h t, e, he => by
    rcases List.mem_cons.mp he with rfl | he
    · exact h.2
    · exact ens_mem t e he
section
variable {P : Program} {w : World} {K : PySem.W.Frag} {mg : Str → Option Value} {base : Heap}
abbrev s_law_may : Stmt := topS 29
abbrev N_lm : List Str := ["_law_made", "_law_thing", "_law_position", "_law_places", "_law_place"]
theorem sc_law_may : FnScope N_lm ["_law_made", "_law_thing", "_law_position"] (defScope s_law_may) := ⟨rfl, rfl, rfl, by decide +kernel, rfl, by decide +kernel, by decide +kernel⟩
def sp_lm (K : PySem.W.Frag) (zs : List Str) (m : Nat) : Sp := fun vs H Q _ => ∃ (p : Addr) (v : V) (n lm : Int) (x : PyData) (ms : List Int) (es : List En), vs = [.ref p, v, .int n] ∧ LgF K H p (ms ++ [lm]) es ∧ (es.map (·.1)).Pairwise (· < ·) ∧
  Dp K H v x ∧ Nd m x ∧ Kl zs x ∧ (letsIn m x).length ≤ 1000 ∧ ∀ H', Same H H' → Q (.bl (lawMay m es lm n x)) H'
theorem ok_law_may {zs : List Str} {m : Nat} {f fl : Addr} {fd dl : FuncData} {k : Nat} (F : Fun K "_law_may" "_law_may" s_law_may f fd) (G : FnOk P w K mg base CX0 k fl dl ["_law_thing"] (sp_li K zs m)) (g : mg "_law_lets_in" = some (.ref fl)) (Kf : PySem.W.keepIn K (.ref fl) = true) (b : Binds K dl ["_law_thing"] [])
    (mdict : mg "dict" = none) : FnOk P w K mg base CX0 (k + 1) f fd ["_law_made", "_law_thing", "_law_position"] (sp_lm K zs m) := by
  have nd := sc_law_may.nd
  refine F.ok sc_law_may (fun vs H Q E h => ?_) (fun cdv A outer s H vs Q E hr h => ?_)
  · obtain ⟨p, v, n, lm, x, ms, es, rfl, _⟩ := h
    rfl
  obtain ⟨p, v, n, lm, x, ms, es, rfl, L, asc, hd, hn, hk, hl, q⟩ := h
  have hu1 := hu_of hr
  refine ⟨_, (pss_cons (ps_if (pt_cmpR op_gt (pv 2) (pe_ix ix_tup (pe_ix ix_tup (pv 0) pe_int (fun _ _ => rfl)) (pe_un un_neg pe_int) (fun _ _ => rfl)) (nomark _))
      (pss_one (ps_ret pe_bl))
      pss_nil)
      (pss_cons (ps_set (i := 3) nd rfl (.inl rfl) (pe_callTy (SC.call_dictT rfl) (by rfl) mdict boot_dict (pa_cons (pe_ix ix_tup (pv 0) pe_int (fun _ _ => rfl)) pa_nil)))
      (pss_cons (ps_for PassesOwn.never rfl (pi_list (pe_call G hr (by rfl) g Kf b .nil pass0 (pa_cons (pv 1) pa_nil))) (pg_name (i := 4) nd rfl (Or.inl rfl))
        (pss_one (ps_if (PW.pt (pw_or (pt_cmpR op_ge (pv 4) (pv 2) (nomark _)) (pw_or (pt_cmp (pc_dnotin hu1 (pv 4) (pv 3))) (pw_or1 (pt_cmpR op_ne (pe_ix ix_tup (pe_dget hu1 (pv 3) (pv 4) noSl_name) pe_int (fun _ _ => rfl)) pe_str (nomark _))))))
          (pss_one (ps_ret pe_bl))
          pss_nil)))
      (pss_one (ps_ret pe_bl))))), ?_⟩
  obtain ⟨mp, ep, rs, h1, h2, h3, h4⟩ := id L
  unfold lawMay at q
  refine ⟨.int n, rfl, .ref p, rfl, p, _, 0, .ref mp, rfl, rfl, .inl (.inl h1), at0, 1, rfl, mp, _, -1, .int lm, rfl, rfl, .inl (.inl h2), ?_, n, lm, rfl, rfl, _, rfl, ?_⟩
  · rw [List.map_append]
    exact atI_last _ _
  by_cases c : n ≤ lm
  case neg =>
    rw [decide_eq_false c, Bool.false_and] at q
    rw [decide_eq_true (show n > lm by omega)]
    exact iteT (q H fun _ _ e => e)
  rw [decide_eq_true c, Bool.true_and] at q
  rw [decide_eq_false (show ¬ n > lm by omega)]
  refine iteF ⟨.ref p, rfl, p, _, 1, .ref ep, rfl, rfl, .inl (.inl h1), rfl, ep, rs, plK es, rfl, h3, ens_pairs h4, fun d nd1 => ?_⟩
  rw [plK_merge asc]
  have sd := same_upd (o := .dK (plK es)) nd1
  have hd1 : upd H d (.dK (plK es)) d = some (.dK (plK es)) := upd_same
  revert sd hd1
  generalize upd H d (.dK (plK es)) = H1
  intro sd hd1
  refine ⟨v, rfl, v, x, rfl, dp_keep (KeepT.of sd) _ _ hn.lay.2.2 hd, hn, hk, hl, fun H2 lp s2 hlp => ⟨lp, rfl, ⟨_, .inl (.inl hlp)⟩, ?_⟩⟩
  have hd2 := s2 _ _ hd1
  have h42 := ens_keep (KeepT.of (sd.trans s2)) h4
  refine for_list (xs := (letsIn m x).map V.int) (fun i σ H' => H' = H2 ∧ (((letsIn m x).take i).all fun i => decide (i < n) && stLet es i) = true ∧ ∃ y4, σ = [some (.ref p), some v, some (.int n), some (.ref d), y4]) ?_ ?_ ?_ ?_
  · exact ⟨rfl, rfl, none, rfl⟩
  · rintro i σ H' _ ⟨rfl, _⟩
    exact .inl (.inl hlp)
  · rintro i y σ H' hy ⟨rfl, hall, y4, rfl⟩
    rw [List.getElem?_map] at hy
    obtain ⟨j, hj, rfl⟩ := Option.map_eq_some_iff.mp hy
    have bad : (decide (j < n) && stLet es j) = false → ((letsIn m x).all fun i => decide (i < n) && stLet es i) = false := fun z => by
      rw [List.all_eq_false]
      exact ⟨j, List.mem_of_getElem? hj, by rw [z]; exact Bool.false_ne_true⟩
    have good : (decide (j < n) && stLet es j) = true → (((letsIn m x).take (i + 1)).all fun i => decide (i < n) && stLet es i) = true := fun z => by
      rw [take_next hj, List.all_append, hall, List.all_cons, List.all_nil, z]
      rfl
    have sall := sd.trans s2
    refine ⟨.int j, rfl, .int n, rfl, j, n, rfl, rfl, _, rfl, ?_⟩
    by_cases c1 : j < n
    case neg =>
      rw [decide_eq_true (show j ≥ n by omega)]
      rw [bad (by rw [decide_eq_false c1, Bool.false_and])] at q
      exact iteT (iteT (q _ sall))
    rw [decide_eq_false (show ¬ j ≥ n by omega)]
    rw [decide_eq_true c1, Bool.true_and] at bad good
    refine iteF ⟨.int j, rfl, .ref d, rfl, d, _, rfl, DGet.k (k := .inl j) hd2, _, rfl, ?_⟩
    rcases plK_at es j asc with ⟨e1, e2⟩ | ⟨e, he, e1, e2⟩
    · rw [e1]
      rw [bad e2] at q
      exact iteT (iteT (q _ sall))
    · obtain ⟨p', wd, v1, vs', ev, hp', hw⟩ := sv_let (ens_mem h42 e he)
      have g1 : DGet H' d (.int j) (some e.2.1) := e1 ▸ DGet.k (k := .inl j) hd2
      rw [e1]
      refine iteF ⟨.ref d, rfl, .int j, rfl, d, e.2.1, rfl, g1, p', _, 0, .str wd, ev, rfl, .inl (.inl hp'), at0, rfl, _, rfl, ?_⟩
      rw [hw] at e2
      by_cases cw : wd = "let"
      · rw [decide_eq_true cw] at e2
        subst cw
        rw [show (!decide ((V.str "let") = V.str "let")) = false by rw [decide_eq_true rfl]; rfl]
        exact iteF ⟨rfl, good e2, _, rfl⟩
      · rw [decide_eq_false cw] at e2
        rw [bad e2] at q
        rw [show (!decide ((V.str wd) = V.str "let")) = true by rw [decide_eq_false (fun z => cw (by injection z))]; rfl]
        exact iteT (q _ sall)
  · rintro σ H' ⟨rfl, hall, y4, rfl⟩
    rw [List.length_map, List.take_length] at hall
    rw [hall] at q
    exact q _ (sd.trans s2)
end
end L20

/-! set(a list of ints), to be sorted: the library knows this call for tuples only, and as len(set(..)). -/
namespace SI
open PySem PySem.Spec PyProof.Rows L2 GR
/-- what set.__new__ makes -/
abbrev bare (w : World) : Obj := { cls := .type "set", dict := none, data := .set #[] 0 (.fresh 0 0 (!w.params.followText "set-order")) }
section
variable {P : Program} {w : World} {A : Around} {E : Value → Shared → Prop} {s : Shared}
/-- the state behind set.__new__ -/
abbrev made (w : World) (s : Shared) : Shared := { s with heap := s.heap.push (bare w) }
/-- behind set.__init__: the ints of the list, what lay there before lies there -/
def Filled (w : World) (s : Shared) (ns : List Int) (s₂ : Shared) : Prop := ∃ h' tk c, s₂ = { s with heap := h', toks := tk } ∧ SetR w h' s.heap.objs.size (fun j => decide (j ∈ ns)) c ∧ c ≤ ns.length ∧ ∀ b o, s.heap.get? b = some o → h'.get? b = some o
theorem at_made : (made w s).heap.get? s.heap.objs.size = some (bare w) := Heap.get?_push_size _ rfl
theorem item_ints {items : Array Value} {ns : List Int} (hit : IntsAre items.toList ns) (i : Nat) (v : Value) (hv : items[i]? = some v) : ∃ k t, ns[i]? = some k ∧ v = .int k t := by
  have hl := IntsAre.length hit
  rw [Array.length_toList] at hl
  have hi : i < ns.length := hl ▸ (Array.getElem?_eq_some_iff.mp hv).1
  obtain ⟨t, e⟩ := PyProof.Rows.IntsAre.int_at hit i v (by rw [Array.getElem?_toList]; exact hv)
  exact ⟨ns[i], t, List.getElem?_eq_getElem hi, by rw [e, List.getD_eq_getElem?_getD, List.getElem?_eq_getElem hi] <;> rfl⟩
/-- set(l) -/
theorem call_set_ints {l : Addr} {items : Array Value} {ns : List Int} {Q : Value → Shared → Prop} (hh : A.handled = none) (hl : s.heap.IsList l items) (hit : IntsAre items.toList ns) (hb : ns.length + 1 < scanBound)
    (q : ∀ s₂, Filled w s ns s₂ → Q (.ref s.heap.objs.size) s₂) : wpAny (model P w) A (call (.type "set") [.ref l]) Q E s := by
  have K := F.called_set
  obtain ⟨c, tl, hmro⟩ := K.mro
  have m1 := K.made
  have m2 := K.sub
  have m3 := K.notType
  have m4 := K.canCreate
  have m5 := F.typeCall_set_1 (.ref l)
  refine wpAny_call (codeAny_of_tree (show wpAny _ _ (callAny (.type "set") _) _ _ _ from wpAny_pure ⟨Code.quiet_builtin _ (by decide +kernel), codeAny_builtin F.entry_type_call ?_⟩))
  rw [Around.under_plain (weight_type_call_type "set" [.ref l] []) rfl]
  repeat (any_goals (first | assumption | wp_step))
  refine codeAny_mono (code_set_led1 (.ref l) (E := E) (Q₁ := fun u s₁ => u = .ref s.heap.objs.size ∧ s₁ = made w s) ⟨rfl, rfl⟩) fun r s₁ hr => ?_
  rcases r with e | fl
  · exact hr
  cases fl with
  | ret u =>
    obtain ⟨rfl, rfl⟩ := hr
    have hS := at_made (w := w) (s := s)
    have hT : Shared.TypeIs (made w s) (.ref s.heap.objs.size) "set" := ⟨_, hS, rfl⟩
    have m6 := K.init.lookup
    have m7 := K.init.bind (.ref s.heap.objs.size)
    repeat (any_goals (first | assumption | wp_step))
    refine codeAny_mono (codeAny_call_builtin (R := wants (fun r s₂ => r = .none ∧ Filled w s ns s₂) E) K.init.plain F.entry_set_init (check_set_init_1 hT ?_)) fun r₂ s₂ hr₂ => ?_
    · have hlen : items.size = ns.length := by
        have := IntsAre.length hit
        rwa [Array.length_toList] at this
      obtain ⟨⟨oc, od, ot, os⟩, hol, hcl, nl, hdl⟩ := hl
      simp only at hcl hdl
      subst hcl
      subst hdl
      have hlS : l < s.heap.objs.size := Heap.lt_size hol
      have hl1 : (made w s).heap.IsList l items := ⟨_, Heap.get?_push_of_some _ hol, rfl, nl, rfl⟩
      have hol' : (made w s).heap.get? l = some { cls := .type "list", dict := od, data := .seq items nl, slots := os } := Heap.get?_push_of_some _ hol
      have m8 := F.sub_list_set
      have m9 := F.sub_list_frozenset
      have m10 : (Value.type "list" == Value.type "dict") = false := by decide
      unfold Builtin.«set.__init__» noKeywords Builtin.Frozenset.updateFrom
      generalize hPI : pyIter = PI
      wp_walk
      subst hPI
      refine wpAny_pyIter_list hl1 (wpAny_bind (wpAny_runValue ?_))
      have hn : (made w s).heap.objs.size = s.heap.objs.size + 1 := Heap.size_push ..
      have far : s.heap.objs.size ∉ [(made w s).heap.objs.size, l] := by
        rw [hn]
        simp only [List.mem_cons, List.not_mem_nil, or_false, not_or]
        exact ⟨Nat.ne_of_lt (Nat.lt_succ_self _), Nat.ne_of_gt hlS⟩
      refine set_update_ints ((Walks.list (A := A.in1.in1.in1) (by simp [hh]) _ l (by rw [hn]; exact Nat.ne_of_lt (Nat.lt_succ_of_lt hlS)) items).toS) s.heap.objs.size far ns hlen hb (item_ints hit) (items.size - 0) 0 _ (by omega) (Nat.zero_le _)
        ⟨⟨_, Heap.get?_push_size _ rfl, rfl, rfl⟩, hl1.push _⟩ ⟨0, Nat.le_refl 0, setR_new_at (Heap.get?_push_of_some _ hS)⟩ ?_
      intro s' c' hm hc' hS'
      obtain ⟨h', g2, d', tk', os'⟩ := s'
      obtain rfl : g2 = s.gens := hm.gens
      obtain rfl : d' = s.drawn := hm.drawn
      obtain rfl : os' = s.os := hm.os
      show wpAny _ _ _ _ _ _
      refine wpAny_pure (show wpAny _ _ (ret Value.none) _ _ _ from wpAny_pure ⟨rfl, h', tk', c', rfl, hS', hlen ▸ hc', fun b o e => hm.heap b o ?_ (Heap.get?_push_of_some _ (Heap.get?_push_of_some _ e))⟩)
      have hb0 : b < s.heap.objs.size := Heap.lt_size e
      rw [hn]
      simp only [List.mem_cons, List.not_mem_nil, or_false, not_or]
      exact ⟨Nat.ne_of_lt hb0, Nat.ne_of_lt (Nat.lt_succ_of_lt hb0)⟩
    · rcases r₂ with e | fl
      · exact hr₂
      cases fl with
      | ret u =>
        obtain ⟨rfl, hF⟩ := hr₂
        repeat (any_goals (first | assumption | wp_step))
        exact q _ hF
      | _ => exact hr₂.elim
  | _ => exact hr.elim
end
section
variable {X : Cx}
/-- set(xs), xs a list of ints -/
def rSetI (K : PySem.W.Frag) (w : World) : List V → Hp → VK → Prop := fun xs H Q => ∃ (l : Addr) (ns : List Int), xs = [.ref l] ∧ SqL K H l (ns.map V.int) ∧ ns.length ≤ 1000 ∧
  ∀ (a : Addr) (c : Nat), H a = none → c ≤ ns.length → Q (.ref a) (upd H a (SetO w a (fun j => decide (j ∈ ns)) c))
theorem cr_setI (hc : X.calm = true) : CallR X (.type "set") (rSetI X.K X.w) := by
  intro pins s σ H xs us Q I r h
  obtain ⟨l, ns, rfl, hl, hn, q⟩ := h
  rw [Vals.ref1 r]
  obtain ⟨its, rv, pl, hz⟩ := I.list hl
  refine call_set_ints (ns := ns) (I.ok.hd hc) pl.isList (by simpa using ints_of_vals rv) (by unfold scanBound; omega) fun s₂ ⟨h', tk, c, e, R, hcn, k⟩ => ?_
  subst e
  exact ⟨.ref s.heap.objs.size, upd H s.heap.objs.size (SetO X.w s.heap.objs.size (fun j => decide (j ∈ ns)) c), I.laid (t' := tk) k (Nat.le_refl _) (setO_new R), rfl, q _ c (I.hok.fresh (Nat.le_refl _)) hcn⟩
end
end SI

namespace L20
open PySem PySem.Spec PyProof.Rows L2 GR WX AD
section
variable {P : Program} {w : World} {K : PySem.W.Frag} {mg : Str → Option Value} {base : Heap}
abbrev s_law_positions : Stmt := topS 30
abbrev N_po : List Str := ["_law_made", "_law_found", "_law_position", "_law_statement_here"]
theorem sc_law_positions : FnScope N_po ["_law_made"] (defScope s_law_positions) := ⟨rfl, rfl, rfl, by decide +kernel, rfl, by decide +kernel, by decide +kernel⟩
/-- entries and the last mark lie where they may -/
structure Bd (lm : Int) (es : List En) : Prop where
  lm0 : 0 ≤ lm
  e0 : ∀ e, e ∈ es → 0 ≤ e.1
  el : es.length ≤ 24
def sp_pos (K : PySem.W.Frag) : Sp := fun vs H Q _ => ∃ (p : Addr) (lm : Int) (ms : List Int) (es : List En), vs = [.ref p] ∧ Lg K H p (ms ++ [lm]) es ∧ Bd lm es ∧ ∀ (H' : Hp) (q : Addr) (ns : List Int), Same H H' → H' q = some (.lst (ns.map V.int)) → (∀ n, n ∈ ns → 0 ≤ n) → Q (.ref q) H'
theorem ok_positions {f : Addr} {fd : FuncData} {k : Nat} (F : Fun K "_law_positions" "_law_positions" s_law_positions f fd) (msorted : mg "sorted" = none) (mset : mg "set" = none) : FnOk P w K mg base CX0 (k + 1) f fd ["_law_made"] (sp_pos K) := by
  have nd := sc_law_positions.nd
  refine F.ok sc_law_positions (fun vs H Q E h => ?_) (fun cdv A outer s H vs Q E hr h => ?_)
  · obtain ⟨p, lm, ms, es, rfl, _⟩ := h
    rfl
  obtain ⟨p, lm, ms, es, rfl, L, B, q⟩ := h
  refine ⟨_, (pss_cons (ps_set (i := 1) nd rfl (.inl rfl) (pe_lst (pa_cons pe_int (pa_cons pe_int (pa_cons (pe_ix ix_tup (pe_ix ix_tup (pv 0) pe_int (fun _ _ => rfl)) (pe_un un_neg pe_int) (fun _ _ => rfl)) (pa_cons (pe_op op_add (pe_ix ix_tup (pe_ix ix_tup (pv 0) pe_int (fun _ _ => rfl)) (pe_un un_neg pe_int) (fun _ _ => rfl)) pe_int) (pa_cons (pe_op op_add (pe_ix ix_tup (pe_ix ix_tup (pv 0) pe_int (fun _ _ => rfl)) (pe_un un_neg pe_int) (fun _ _ => rfl)) pe_int) pa_nil)))))))
      (pss_cons (ps_for PassesOwn.never rfl (pi_tup (pe_ix ix_tup (pv 0) pe_int (fun _ _ => rfl))) (pg_tup rfl (pgs_cons (pg_name (i := 2) nd rfl (Or.inl rfl)) (pgs_cons (pg_name (i := 3) nd rfl (Or.inl rfl)) pgs_nil)))
        (pss_one (ps_set (i := 1) nd rfl (.inl rfl) (pe_op op_cat (pv 1) (pe_lst (pa_cons (pv 2) (pa_cons (pe_op op_add (pv 2) pe_int) pa_nil)))))))
      (pss_one (ps_ret (pe_callB (cr_sortedSet rfl) (by rfl) msorted boot_sorted (pa_cons (pe_callTy (SI.cr_setI rfl) (by rfl) mset boot_set (pa_cons (pv 1) pa_nil)) pa_nil)))))), ?_⟩
  obtain ⟨mp, ep, rs, h1, h2, h3, h4⟩ := id L
  have hl := ens_len h4
  have hm : ∀ {H'}, SqT K H' p [.ref mp, .ref ep] → True := fun _ => trivial
  have hmt : SqT K H mp (ms.map V.int ++ [.int lm]) := .inl (.inl (by rw [← List.map_singleton (f := V.int), ← List.map_append]; exact h2))
  refine ⟨.ref p, rfl, p, _, 0, .ref mp, rfl, rfl, .inl (.inl h1), at0, 1, rfl, mp, _, -1, .int lm, rfl, rfl, hmt, atI_last _ _, .ref p, rfl, p, _, 0, .ref mp, rfl, rfl, .inl (.inl h1), at0, 1, rfl, mp, _, -1, .int lm, rfl, rfl, hmt, atI_last _ _, lm, 1, rfl, rfl,
    .ref p, rfl, p, _, 0, .ref mp, rfl, rfl, .inl (.inl h1), at0, 1, rfl, mp, _, -1, .int lm, rfl, rfl, hmt, atI_last _ _, lm, 2, rfl, rfl, h1000 (show 5 ≤ 1000 by decide), fun fl nfl => ?_⟩
  have sf := same_upd (o := .lst [.int 0, .int 1, .int lm, .int (lm + 1), .int (lm + 2)]) nfl
  refine ⟨.ref p, rfl, p, _, 1, .ref ep, rfl, rfl, .inl (.inl (sf _ _ h1)), rfl, ep, rfl, ⟨_, .inl (rd_keep h3 (KeepT.of sf))⟩, ?_⟩
  refine for_tup (xs := rs.map V.ref) (fun i σ H' => ∃ (fl : Addr) (y2 y3 : Option V) (ns : List Int), σ = [some (.ref p), some (.ref fl), y2, y3] ∧ H' fl = some (.lst (ns.map V.int)) ∧ ns.length = 5 + 2 * i ∧ (∀ n, n ∈ ns → 0 ≤ n) ∧ Same H H') ?_ ?_ ?_ ?_
  · refine ⟨fl, none, none, [0, 1, lm, lm + 1, lm + 2], rfl, upd_same, rfl, fun n hn => ?_, sf⟩
    have := B.lm0
    simp only [List.mem_cons, List.not_mem_nil, or_false] at hn
    omega
  · rintro i σ H' _ ⟨_, _, _, _, rfl, _, _, _, ss⟩
    exact .inl (rd_keep h3 (KeepT.of ss))
  · rintro i x σ H' hx ⟨fl', y2, y3, ns, rfl, hfl, hln, hns, ss⟩
    rw [List.getElem?_map] at hx
    obtain ⟨r, hr', rfl⟩ := Option.map_eq_some_iff.mp hx
    have hi : i < rs.length := (List.getElem?_eq_some_iff.mp hr').1
    have hel := B.el
    obtain ⟨e, he, h5⟩ := ens_at h4 hr'
    have h6 := h5.keep (KeepT.of ss)
    have h0 := B.e0 e (List.mem_of_getElem? he)
    refine ⟨r, _, rfl, .inl (.inl h6.1), rfl, _, _, rfl, _, _, rfl, rfl, .ref fl', rfl, .int e.1, rfl, .int e.1, rfl, e.1, 1, rfl, rfl, h1000 (show 2 ≤ 1000 by decide), fun l nl => ?_⟩
    have sl := same_upd (o := .lst [.int e.1, .int (e.1 + 1)]) nl
    refine ⟨fl', l, _, _, rfl, rfl, sl _ _ hfl, upd_same, h1000 (by rw [List.length_map, hln]; show _ + 2 ≤ 1000; omega), fun l2 nl2 => ⟨l2, _, _, ns ++ [e.1, e.1 + 1], rfl, by rw [List.map_append]; exact upd_same, by rw [List.length_append, hln]; show 5 + 2 * i + 2 = _; omega, fun n hn => ?_, ss.trans (sl.trans (same_upd nl2))⟩⟩
    rcases List.mem_append.mp hn with hn | hn
    · exact hns n hn
    · simp only [List.mem_cons, List.not_mem_nil, or_false] at hn
      omega
  · rintro σ H' ⟨fl', y2, y3, ns, rfl, hfl, hln, hns, ss⟩
    rw [List.length_map] at hln
    have hel := B.el
    refine ⟨.ref fl', rfl, fl', ns, rfl, .inl (.inl hfl), by omega, fun a c na hc => ⟨a, _, c, rfl, upd_same, by omega, fun out r hp hm hlo nr => ?_⟩⟩
    refine q _ r out (ss.trans ((same_upd na).trans (same_upd nr))) upd_same fun n hn => ?_
    exact hns n (of_decide_eq_true ((hm n).mp hn))
end
end L20

namespace L20
open PySem PySem.Spec PyProof.Rows L2 GR WX AD
theorem fshow {d : PyData} {k m : Nat} (f : Fine k m d) (hk : k ≤ 60) (hm : m ≤ 16000000) : d.showable = true ∧ d.depth ≤ 60 ∧ d.shown.length ≤ sizeLine := by
  refine ⟨f.shw, Nat.le_trans f.dep hk, ?_⟩
  have z3 : d.shown.length + 2 ≤ m := f.len
  have z24 : sizeLine = 16777216 := by decide
  omega
/-- how long such an expression is when shown -/
def cb : Nat → Nat
  | 0 => 0
  | n + 1 => 3 * cb n + 600
theorem fines_of {k m : Nat} : ∀ {xs : List PyData}, (∀ x, x ∈ xs → Fine k m x) → Fines k (m * xs.length) xs
  | [], _ => by rw [List.length_nil, Nat.mul_zero]; exact .nil
  | x :: xs, h => by
    have := Fines.cons (h x List.mem_cons_self) (fines_of fun y hy => h y (List.mem_cons_of_mem _ hy))
    rw [List.length_cons, Nat.mul_add, Nat.mul_one, Nat.add_comm]
    exact this
theorem fine_row {t : Str} (ht : Fine 0 84 (.str t)) : Fine 2 130 (rowX t) :=
  ((Fines.cons (Fine.word (w := "cell") (by decide)).k0 (.cons ht.k0 (.cons (fine_key.mono (Nat.le_refl _) (Nat.le_refl _)) (.cons (Fine.word (w := "in") (by decide)).k0 .nil)))).tup).mono (Nat.le_refl _) (by decide)
theorem Cx.fine {zs : List Str} (hz : ∀ z, z ∈ zs → Fine 0 84 (.str z)) : ∀ {n : Nat} {b : Bool} {x : PyData}, Cx zs [] b n x → Fine n (cb n) x
  | 0, _, _, h => by cases h
  | n + 1, b, x, h => by
    have hc : cb (n + 1) = 3 * cb n + 600 := rfl
    cases h with
    | int b n' i h1 h2 => exact (tup2 (w := "int") (by decide) (Fine.int h1 h2)).mono (by omega) (by omega)
    | let_ b n' i g9 h1 h2 => exact (tup2 (w := "let") (by decide) (Fine.int (by omega) (by omega))).mono (by omega) (by omega)
    | key n' => exact fine_key.mono (by omega) (by omega)
    | var b n z h1 => cases h1
    | cell b n t v x h1 h2 g =>
      have f := Cx.fine hz g
      exact ((Fines.cons (Fine.word (w := "cell") (by decide)).k0 (.cons (hz _ h1).k0 (.cons f (.cons (hz _ h2).k0 .nil)))).tup).mono (by omega) (by omega)
    | op b n o x y h1 g1 g2 =>
      have f1 := Cx.fine hz g1
      have f2 := Cx.fine hz g2
      have hw : o ∈ (["int", "key", "var", "cell", "if", "+", "-", "*", "<", "=", "at", "count", "sum", "most", "first", "in", "let", "need", "tell", "put", "each"] : List Str) := by
        simp only [ops5, List.mem_cons, List.not_mem_nil, or_false] at h1
        rcases h1 with rfl | rfl | rfl | rfl | rfl <;> decide
      exact ((Fines.cons (Fine.word hw).k0 (.cons f1 (.cons f2 .nil))).tup).mono (by omega) (by omega)
    | at_ b n x y g1 g2 =>
      have f1 := Cx.fine hz g1
      have f2 := Cx.fine hz g2
      exact ((Fines.cons (Fine.word (w := "at") (by decide)).k0 (.cons f1 (.cons f2 .nil))).tup).mono (by omega) (by omega)
    | iff b n x y z g1 g2 g3 =>
      have f1 := Cx.fine hz g1
      have f2 := Cx.fine hz g2
      have f3 := Cx.fine hz g3
      exact ((Fines.cons (Fine.word (w := "if") (by decide)).k0 (.cons f1 (.cons f2 (.cons f3 .nil)))).tup).mono (by omega) (by omega)
    | agg b n o t p es vs ds g0 g1 g2 g3 g4 g5 g6 g7 =>
      have hvd : vs.length + ds.length ≤ 2 := (aggk_aggs g1).2
      have hw : o ∈ (["int", "key", "var", "cell", "if", "+", "-", "*", "<", "=", "at", "count", "sum", "most", "first", "in", "let", "need", "tell", "put", "each"] : List Str) := by
        simp only [aggk, List.mem_cons, List.not_mem_nil, or_false, Prod.mk.injEq] at g1
        rcases g1 with ⟨rfl, _⟩ | ⟨rfl, _⟩ | ⟨rfl, _⟩ | ⟨rfl, _⟩ <;> decide
      have f5 := Cx.fine hz g5
      have fe : Fine 2 300 (.tuple es) := by
        have hl : ∀ y, y ∈ es → Fine 1 36 y := fun y hy => by
          cases g4 y hy with
          | int b n' i h1 h2 => exact tup2 (w := "int") (by decide) (Fine.int h1 h2)
          | let_ b n' i g9 h1 h2 => exact tup2 (w := "let") (by decide) (Fine.int (by omega) (by omega))
          | key n' => exact fine_key.mono (Nat.le_refl _) (by decide)
          | var b n z h1 => cases h1
          | cell b n t v x h1 h2 g => cases g
          | op b n o' x y h1 g1 g2 => cases g1
          | at_ b n x y g1 g2 => cases g1
          | iff b n x y z g1 g2 g3 => cases g1
          | agg b n o t p es vs ds g0 g1 g2 g3 g4 g5 g6 g7 => omega
        exact ((fines_of hl).tup).mono (Nat.le_refl _) (by omega)
      have fv : Fines n (cb n * (vs ++ ds).length) (vs ++ ds) := fines_of fun y hy => by
        rcases List.mem_append.mp hy with hy | hy
        · exact Cx.fine hz (g6 y hy)
        · exact Cx.fine hz (g7 y hy)
      have hm : cb n * (vs ++ ds).length ≤ cb n * 2 := Nat.mul_le_mul_left _ (by rw [List.length_append]; exact hvd)
      exact ((Fines.cons (Fine.word hw).k0 (.cons (hz _ g2).k0 (.cons (fe.mono g0 (Nat.le_refl _)) (.cons ((fine_row (hz _ g2)).mono g0 (Nat.le_refl _)) (.cons f5 fv))))).tup).mono (by omega) (by omega)
/-- the places of the lets -/
def letsL (es : List En) : List Int := (es.filter fun e => isLet e.2.2).map (·.1)
theorem letsL_take {es : List En} {i : Nat} {e : En} (h : es[i]? = some e) : letsL (es.take (i + 1)) = letsL (es.take i) ++ (if isLet e.2.2 = true then [e.1] else []) := by
  unfold letsL
  rw [filter_next (p := fun e : En => isLet e.2.2) h, List.map_append]
  congr 1
  split <;> rfl
theorem letsL_len (es : List En) : (letsL es).length ≤ es.length := by
  unfold letsL
  rw [List.length_map]
  exact List.length_filter_le _ _
theorem Wd.nms {H : Hp} {d c u tl cl nl : Addr} {ts cs ns : List Str} (W : Wd H d c u tl cl nl ts cs ns) : ∀ z, z ∈ nms ts cs → Nm z := fun z hz => by
  rcases List.mem_cons.mp hz with rfl | hz
  · exact in_nm
  rcases List.mem_append.mp hz with hz | hz
  · exact W.at' z hz
  · exact W.ac z hz
end L20

namespace L20
open PySem PySem.Spec PyProof.Rows L2 GR WX AD
theorem rep3 (ns : List Int) : ∃ ms : List Int, (List.replicate (3 : Int).toNat (ns.map V.int)).flatten = ms.map V.int ∧ ms.length = 3 * ns.length ∧ ∀ m, m ∈ ms → m ∈ ns := by
  refine ⟨ns ++ (ns ++ ns), ?_, by rw [List.length_append, List.length_append]; omega, fun m hm => ?_⟩
  · show (List.replicate 3 (ns.map V.int)).flatten = _
    simp only [List.replicate_succ, List.replicate_zero, List.flatten_cons, List.flatten_nil, List.append_nil, List.map_append]
  · rcases List.mem_append.mp hm with h | h
    · exact h
    · rcases List.mem_append.mp h with h | h <;> exact h
section
variable {P : Program} {w : World} {K : PySem.W.Frag} {mg : Str → Option Value} {base : Heap}
abbrev s_law_stands_right : Stmt := topS 31
abbrev N_sr : List Str := ["_law_deck_here", "_law_world_here", "_law_made", "_law_position", "_law_lets", "_law_places", "_law_k", "_law_thing", "_law_before", "_law_statement_here"]
abbrev ps_sr : List Str := ["_law_deck_here", "_law_world_here", "_law_made"]
theorem sc_law_stands_right : FnScope N_sr ps_sr (defScope s_law_stands_right) := ⟨rfl, rfl, rfl, by decide +kernel, rfl, by decide +kernel, by decide +kernel⟩
def sp_sr (K : PySem.W.Frag) : Sp := fun vs H Q _ => ∃ (d c u tl cl nl p : Addr) (N : Int) (ts cs ns : List Str) (ms : List Int) (es : List En), vs = [.ref d, .ref u, .ref p] ∧ Deck H d c N ∧ N < 2 ^ 52 ∧ Wd H d c u tl cl nl ts cs ns ∧ LgF K H p ms es ∧ OkL ms es ∧
  ∀ H', Keep d c H H' → Deck H' d c (N + 4194304) → Q (.bl true) H'
theorem ok_stands_right {f f_d f_ex f_wl f_may f_lm f_pos : Addr} {fd d_d d_ex d_wl d_may d_lm d_pos : FuncData} {k : Nat} (F : Fun K "_law_stands_right" "_law_stands_right" s_law_stands_right f fd)
    (Gd : FnOk P w K mg base CX0 k f_d d_d ["_law_deck_here", "_law_most"] sp_draw) (gd : mg "_law_draw" = some (.ref f_d)) (Kd : PySem.W.keepIn K (.ref f_d) = true) (bd : Binds K d_d ["_law_deck_here", "_law_most"] [])
    (Gx : FnOk P w K mg base CX0 k f_ex d_ex ps_ex (sp_expr K 3)) (gx : mg "_law_expression" = some (.ref f_ex)) (Kx : PySem.W.keepIn K (.ref f_ex) = true) (bx : Binds K d_ex ps_ex [])
    (Gw : ∀ zs : List Str, ("in" : Str) ∈ zs → ("+" : Str) ∈ zs → FnOk P w K mg base CX0 k f_wl d_wl ps_wl (sp_wl K zs 6)) (gw : mg "_law_with_lets" = some (.ref f_wl)) (Kw : PySem.W.keepIn K (.ref f_wl) = true) (bw : Binds K d_wl ps_wl [])
    (Gm : FnOk P w K mg base CX0 k f_may d_may ["log", "expression", "position"] (sp_may K)) (gm : mg "may_stand" = some (.ref f_may)) (Km : PySem.W.keepIn K (.ref f_may) = true) (bm : Binds K d_may ["log", "expression", "position"] [])
    (Gl : ∀ zs : List Str, ("in" : Str) ∈ zs → FnOk P w K mg base CX0 k f_lm d_lm ["_law_made", "_law_thing", "_law_position"] (sp_lm K zs 6)) (gl : mg "_law_may" = some (.ref f_lm)) (Kl' : PySem.W.keepIn K (.ref f_lm) = true) (bl : Binds K d_lm ["_law_made", "_law_thing", "_law_position"] [])
    (Gp : FnOk P w K mg base CX0 k f_pos d_pos ["_law_made"] (sp_pos K)) (gp : mg "_law_positions" = some (.ref f_pos)) (Kp : PySem.W.keepIn K (.ref f_pos) = true) (bp : Binds K d_pos ["_law_made"] [])
    (mrepr : mg "repr" = none) (mrange : mg "range" = none) : FnG P w K mg base CX0 (k + 1) f fd ps_sr (sp_sr K) := by
  have nd := sc_law_stands_right.nd
  refine ok_g F sc_law_stands_right (fun vs H Q E h => ?_) (fun cdv A outer s H vs Q E hg hr h => ?_)
  · obtain ⟨d, c, u, tl, cl, nl, p, N, ts, cs, ns, ms, es, rfl, _⟩ := h
    rfl
  obtain ⟨d, c, u, tl, cl, nl, p, N, ts, cs, ns, ms, es, rfl, D, hN, W, L, ok, q⟩ := h
  have hin : ("in" : Str) ∈ ("+" : Str) :: nms ts cs := List.mem_cons_of_mem _ List.mem_cons_self
  have hpl : ("+" : Str) ∈ ("+" : Str) :: nms ts cs := List.mem_cons_self
  refine ⟨_, (pss_cons (ps_setLc (i := 4) (own := [("_law_position", 3), ("_law_statement_here", 9)]) (g := gTup K 2 (gCons (gName 3) (gCons (gName 9) gNil))) (tt := tTest (tOp rEq (tOp (rIxT K) (tVar 9) (tC (.int 0))) (tC (.str "let")))) (te := tVar 3)
        rfl nd rfl rfl (sw_true rfl rfl rfl (by decide +kernel)) (pi_tup (pe_ix ix_tup (pv 2) pe_int (fun _ _ => rfl))) (blkOk_by (N := N_sr) (sc := defScope s_law_stands_right) (by decide +kernel))
        (fun _ _ _ _ _ => (pg_tup rfl (pgs_cons (pg_name (i := 3) (x := "_law_position") nd rfl (Or.inl rfl)) (pgs_cons (pg_name (i := 9) (x := "_law_statement_here") nd rfl (Or.inl rfl)) pgs_nil))))
        (fun _ _ _ _ _ => pts_one (pt_cmpR op_eq (pe_ix ix_tup (pv 9) pe_int (fun _ _ => rfl)) pe_str (nomark _))) (fun _ _ _ _ _ => (pv 3)))
      (pss_cons (ps_set (i := 5) nd rfl (.inl rfl) (pe_op op_cat (pe_op op_cat (pe_op op_rep (pv 4) pe_int) (pe_lc (own := [("_law_position", 3), ("_law_statement_here", 9)]) (g := gTup K 2 (gCons (gName 3) (gCons (gName 9) gNil))) (tt := tYes) (te := tVar 3)
        rfl nd (pi_tup (pe_ix ix_tup (pv 2) pe_int (fun _ _ => rfl))) (blkOk_by (N := N_sr) (sc := defScope s_law_stands_right) (by decide +kernel))
        (fun _ _ _ _ _ => (pg_tup rfl (pgs_cons (pg_name (i := 3) (x := "_law_position") nd rfl (Or.inl rfl)) (pgs_cons (pg_name (i := 9) (x := "_law_statement_here") nd rfl (Or.inl rfl)) pgs_nil))))
        (fun _ _ _ _ _ => pts_nil) (fun _ _ _ _ _ => (pv 3)))) (pe_lst (pa_cons pe_int (pa_cons pe_int (pa_cons (pe_ix ix_tup (pe_ix ix_tup (pv 2) pe_int (fun _ _ => rfl)) (pe_un un_neg pe_int) (fun _ _ => rfl)) pa_nil))))))
      (pss_cons (ps_for PassesOwn.never rfl (pi_range1 rfl mrange (pa_cons pe_int pa_nil)) (pg_name (i := 6) nd rfl (Or.inl rfl))
        (pss_cons (ps_set (i := 7) nd rfl (.inl rfl) (pe_call (Gw _ hin hpl) hr (by rfl) gw Kw bw .nil pass0 (pa_cons (pv 0) (pa_cons (pe_call Gx hr (by rfl) gx Kx bx .nil pass0 (pa_cons (pv 0) (pa_cons (pv 1) (pa_cons (pe_call Gd hr (by rfl) gd Kd bd .nil pass0 (pa_cons (pv 0) (pa_cons pe_int pa_nil))) (pa_cons (pe_lst pa_nil) (pa_cons pe_int pa_nil)))))) (pa_cons (pv 5) pa_nil)))))
        (pss_cons (ps_set (i := 8) nd rfl (.inl rfl) (pe_callB (call_reprD hg hr) (by rfl) mrepr boot_repr (pa_cons (pe_tup (pa_cons (pv 2) (pa_cons (pv 7) pa_nil))) pa_nil)))
        (pss_cons (ps_for PassesOwn.never rfl (pi_list (pe_call Gp hr (by rfl) gp Kp bp .nil pass0 (pa_cons (pv 2) pa_nil))) (pg_name (i := 3) nd rfl (Or.inl rfl))
          (pss_one (ps_if (pt_cmpR op_ne (pe_callB call_reprB (by rfl) mrepr boot_repr (pa_cons (pe_call Gm hr (by rfl) gm Km bm .nil pass0 (pa_cons (pv 2) (pa_cons (pv 7) (pa_cons (pv 3) pa_nil)))) pa_nil)) (pe_callB call_reprB (by rfl) mrepr boot_repr (pa_cons (pe_call (Gl _ hin) hr (by rfl) gl Kl' bl .nil pass0 (pa_cons (pv 2) (pa_cons (pv 7) (pa_cons (pv 3) pa_nil)))) pa_nil)) (nomark _))
            (pss_one (ps_ret pe_bl))
            pss_nil)))
        (pss_one (ps_if (pt_cmpR op_ne (pe_callB (call_reprD hg hr) (by rfl) mrepr boot_repr (pa_cons (pe_tup (pa_cons (pv 2) (pa_cons (pv 7) pa_nil))) pa_nil)) (pv 8) (nomark _))
            (pss_one (ps_ret pe_bl))
            pss_nil))))))
      (pss_one (ps_ret pe_bl))))), ?_⟩
  obtain ⟨mp, ep, rs, h1, h2, h3, h4⟩ := id L
  have hl := ens_len h4
  have hel := ok.el
  obtain ⟨fr, lm, rfl⟩ : ∃ fr lm, ms = fr ++ [lm] := ⟨ms.dropLast, ms.getLast (fun z => by have := ok.m0; rw [z] at this; exact nomatch this), (List.dropLast_concat_getLast _).symm⟩
  have hlm := ok.mb lm (List.mem_append_right _ List.mem_cons_self)
  have Bd0 : Bd lm es := ⟨hlm.1, fun e he => (ok.eb e he).1, hel⟩
  have h3q : SqT K H ep (rs.map V.ref) := h3.sq
  have hmt : SqT K H mp (fr.map V.int ++ [.int lm]) := .inl (.inl (by rw [← List.map_singleton (f := V.int), ← List.map_append]; exact h2))
  -- the lets
  refine ⟨.ref p, rfl, p, _, 1, .ref ep, rfl, rfl, .inl (.inl h1), rfl, ep, rfl, ⟨_, h3q⟩, fun B1 nB1 => ?_⟩
  refine lc_tup (xs := rs.map V.ref) (fun i H' => H' B1 = some (.lst ((letsL (es.take i)).map V.int)) ∧ ∀ b o, b ≠ B1 → H b = some o → H' b = some o) ?_ ?_ ?_ ?_
  · exact ⟨upd_same, fun b o nb e => by rw [upd_ne nb]; exact e⟩
  · rintro i H' _ ⟨_, kp⟩
    exact (KeepT.of (show Same H H' from fun b o e => kp b o (ne_of_none e nB1) e)).seqt h3q
  · rintro i x H' hx ⟨hB, kp⟩
    rw [List.getElem?_map] at hx
    obtain ⟨r, hr', rfl⟩ := Option.map_eq_some_iff.mp hx
    obtain ⟨e, he, h5⟩ := ens_at h4 hr'
    have sm : Same H H' := fun b o e => kp b o (ne_of_none e nB1) e
    have h6 := h5.keep (KeepT.of sm)
    obtain ⟨p', wd, v1, vs', ev, hp', hw⟩ := sv_let h6.2
    have hlen : (letsL (es.take i)).length ≤ 24 := Nat.le_trans (letsL_len _) (by rw [List.length_take]; omega)
    refine ⟨r, _, rfl, .inl (.inl h6.1), rfl, _, _, rfl, _, _, rfl, rfl, rfl, e.2.1, rfl, p', _, 0, .str wd, ev, rfl, .inl (.inl hp'), at0, rfl, _, rfl, ?_⟩
    rw [letsL_take he, hw]
    by_cases cw : wd = "let"
    · rw [cw, decide_eq_true rfl, decide_eq_true rfl, if_pos rfl, List.map_append]
      exact iteT ⟨.int e.1, rfl, _, hB, small1000 (by rw [List.length_map]; omega), upd_same, fun b o nb e' => by rw [upd_ne nb]; exact kp b o nb e'⟩
    · rw [decide_eq_false cw, decide_eq_false (fun z => cw (by injection z)), if_neg Bool.false_ne_true, List.append_nil]
      exact iteF ⟨hB, kp⟩
  rintro H1 ⟨hB1, kp1⟩
  rw [List.length_map, hl, List.take_length] at hB1
  have s1 : Same H H1 := fun b o e => kp1 b o (ne_of_none e nB1) e
  have hlen1 : (letsL es).length ≤ 24 := Nat.le_trans (letsL_len _) hel
  -- the places
  obtain ⟨ns1, hr1, hr2, hr3⟩ := rep3 (letsL es)
  refine ⟨.ref B1, rfl, B1, 3, _, rfl, rfl, hB1, by decide, by decide, ?_, fun r1 nr1 => ?_⟩
  · rw [List.length_map]
    exact h1000 (by show _ * 3 ≤ 1000; omega)
  rw [hr1]
  have s2 := s1.trans (same_upd (o := .lst (ns1.map V.int)) nr1)
  have hr1' : upd H1 r1 (.lst (ns1.map V.int)) r1 = some (.lst (ns1.map V.int)) := upd_same
  revert s2 hr1'
  generalize upd H1 r1 (.lst (ns1.map V.int)) = H2
  intro s2 hr1'
  refine ⟨.ref p, rfl, p, _, 1, .ref ep, rfl, rfl, .inl (.inl (s2 _ _ h1)), rfl, ep, rfl, ⟨_, (KeepT.of s2).seqt h3q⟩, fun B2 nB2 => ?_⟩
  refine lc_tup (xs := rs.map V.ref) (fun i H' => H' B2 = some (.lst (((es.take i).map (·.1)).map V.int)) ∧ ∀ b o, b ≠ B2 → H2 b = some o → H' b = some o) ?_ ?_ ?_ ?_
  · exact ⟨upd_same, fun b o nb e => by rw [upd_ne nb]; exact e⟩
  · rintro i H' _ ⟨_, kp⟩
    exact (KeepT.of (s2.trans (show Same H2 H' from fun b o e => kp b o (ne_of_none e nB2) e))).seqt h3q
  · rintro i x H' hx ⟨hB, kp⟩
    rw [List.getElem?_map] at hx
    obtain ⟨r, hr', rfl⟩ := Option.map_eq_some_iff.mp hx
    obtain ⟨e, he, h5⟩ := ens_at h4 hr'
    have sm : Same H2 H' := fun b o e => kp b o (ne_of_none e nB2) e
    have h6 := h5.keep (KeepT.of (s2.trans sm))
    refine ⟨r, _, rfl, .inl (.inl h6.1), rfl, _, _, rfl, _, _, rfl, rfl, rfl, yes_then ⟨.int e.1, rfl, _, hB, small1000 (by rw [List.length_map, List.length_map, List.length_take]; omega), ?_, fun b o nb e' => by rw [upd_ne nb]; exact kp b o nb e'⟩⟩
    rw [take_next he, List.map_append, List.map_append]
    exact upd_same
  rintro H3 ⟨hB2, kp2⟩
  rw [List.length_map, hl, List.take_length] at hB2
  have s23 : Same H2 H3 := fun b o e => kp2 b o (ne_of_none e nB2) e
  have s3 := s2.trans s23
  refine ⟨r1, B2, _, _, rfl, rfl, s23 _ _ hr1', hB2, h1000 (by rw [List.length_map, List.length_map, List.length_map]; omega), fun r2 nr2 => ?_⟩
  have s34 := same_upd (o := .lst (ns1.map V.int ++ (es.map (·.1)).map V.int)) nr2
  refine ⟨.ref p, rfl, p, _, 0, .ref mp, rfl, rfl, .inl (.inl ((s3.trans s34) _ _ h1)), at0, 1, rfl, mp, _, -1, .int lm, rfl, rfl, (KeepT.of (s3.trans s34)).seqt hmt, atI_last _ _, h1000 (show 3 ≤ 1000 by decide), fun r3 nr3 => ?_⟩
  have s45 := same_upd (o := .lst [.int 0, .int 3, .int lm]) nr3
  refine ⟨r2, r3, _, _, rfl, rfl, s45 _ _ upd_same, upd_same, h1000 (by rw [List.length_append, List.length_map, List.length_map, List.length_map]; show _ + 3 ≤ 1000; omega), fun pl npl => ?_⟩
  have s56 := same_upd (o := .lst (ns1.map V.int ++ (es.map (·.1)).map V.int ++ [.int 0, .int 3, .int lm])) npl
  have s06 := s3.trans (s34.trans (s45.trans s56))
  have Dp6 := ((D.same s3).same (s34.trans s45)).new npl
  have P6 : Pl (upd (upd (upd H3 r2 (.lst (ns1.map V.int ++ (es.map (·.1)).map V.int))) r3 (.lst [.int 0, .int 3, .int lm])) pl (.lst (ns1.map V.int ++ (es.map (·.1)).map V.int ++ [.int 0, .int 3, .int lm]))) d c pl (ns1 ++ es.map (·.1) ++ [0, 3, lm]) := by
    refine ⟨by rw [List.map_append, List.map_append]; exact upd_same, Dp6, by simp, ?_, fun x hx => ?_⟩
    · rw [List.length_append, List.length_append, List.length_map]
      show _ + 3 ≤ 1000
      omega
    · rcases List.mem_append.mp hx with hx | hx
      · rcases List.mem_append.mp hx with hx | hx
        · have := hr3 x hx
          unfold letsL at this
          obtain ⟨e, he, rfl⟩ := List.mem_map.mp this
          exact ok.eb e (List.mem_filter.mp he).1
        · obtain ⟨e, he, rfl⟩ := List.mem_map.mp hx
          exact ok.eb e he
      · simp only [List.mem_cons, List.not_mem_nil, or_false] at hx
        omega
  revert s06 P6
  generalize upd (upd (upd H3 r2 (.lst (ns1.map V.int ++ (es.map (·.1)).map V.int))) r3 (.lst [.int 0, .int 3, .int lm])) pl (.lst (ns1.map V.int ++ (es.map (·.1)).map V.int ++ [.int 0, .int 3, .int lm])) = H6
  generalize ns1 ++ es.map (·.1) ++ [0, 3, lm] = ps
  intro s06 P6
  have k06 : Keep d c H H6 := Keep.of s06
  clear s56 s45 s34 s3 s23 s2 s1 kp1 kp2 hB1 hB2 hr1' hr1 hr2 hr3
  have D6 := D.same s06
  have hz : ∀ z, z ∈ ("+" : Str) :: nms ts cs → PyData.strOk z = true := fun z hz => by
    rcases List.mem_cons.mp hz with rfl | hz
    · decide +kernel
    · exact nm_ok (W.nms z hz)
  have hzf : ∀ z, z ∈ ("+" : Str) :: nms ts cs → Fine 0 84 (.str z) := fun z hz => by
    rcases List.mem_cons.mp hz with rfl | hz
    · exact (Fine.word (w := "+") (by decide)).mono (Nat.le_refl _) (by decide)
    · exact Fine.str (W.nms z hz)
  have hzl : (("+" : Str) :: nms ts cs ++ ([] : List Str)).length ≤ 60 := by
    rw [List.append_nil]
    have := W.lt
    have := W.lc
    rw [List.length_cons, List.length_cons, List.length_append]
    omega
  refine ⟨6, rfl, by decide, by decide, ?_⟩
  refine for_range (n := 6) (fun i σ H' => ∃ y3 y6 y7 y8 : Option V, σ = [some (.ref d), some (.ref u), some (.ref p), y3, some (.ref B1), some (.ref pl), y6, y7, y8, none] ∧ Keep d c H6 H' ∧ Deck H' d c (N + 600000 * (i : Int))) ?_ ?_ ?_
  · exact ⟨_, _, _, _, rfl, Keep.refl, D6.mono (by omega)⟩
  · rintro i σ H7 hi6 ⟨y3, y6, y7, y8, rfl, k7, D7⟩
    refine ⟨.ref d, rfl, .ref d, rfl, .ref u, rfl, .ref d, rfl, d, c, _, 4, rfl, D7, by omega, by decide, by decide, fun H8 j k8 D8 j0 j1 => ⟨Nat.zero_le _, fun sc nsc => ?_⟩⟩
    have s9 := same_upd (o := .lst []) nsc
    have k9 : Keep d c H6 (upd H8 sc (.lst [])) := (k7.trans k8).trans (Keep.of s9)
    have D9 := D8.same s9
    have S9 : Scp (upd H8 sc (.lst [])) d c sc [] := ⟨upd_same, D8.new nsc, fun z hz => (nomatch hz), Nat.zero_le _⟩
    revert k9 D9 S9
    generalize upd H8 sc (.lst []) = H9
    intro k9 D9 S9
    clear s9
    refine ⟨d, c, u, tl, cl, nl, sc, _, j, 0, ts, cs, ns, [], rfl, D9, ?_, W.keep (k06.trans k9), S9, by omega, by decide, by decide, fun H10 v x k10 D10 fx cx px => ?_⟩
    · rw [show dx 3 = 3450 from by decide]
      omega
    rw [show dx 3 = 3450 from by decide] at D10
    replace cx : Cx (("+" : Str) :: nms ts cs) [] false 5 x := Cx.wide (fun z h => List.mem_cons_of_mem _ h) (fun z h => h) cx
    have P10 := P6.keep (k9.trans k10)
    refine ⟨.ref pl, rfl, d, c, pl, _, v, x, ps, rfl, D10, ?_, P10, px, cx.nd hz (fun _ h => absurd h List.not_mem_nil), .inl ⟨_, _, cx⟩, fun H11 v' x' k11 D11 px' fx' wq => ?_⟩
    · rw [show wx 6 = 374491 from by decide]
      omega
    rw [show wx 6 = 374491 from by decide] at D11
    have cx' := wq.cx false 5 cx
    have k0 := k06.trans ((k9.trans k10).trans k11)
    have L11 := L.keep (k0.t D)
    have ff := ((Fines.cons (L11.lg.fine ok) (.cons ((cx'.fine hzf).mono (show 5 ≤ 11 by decide) (Nat.le_refl _)) .nil)).tup)
    obtain ⟨f1, f2, f3⟩ := fshow ff (by decide) (by decide)
    refine ⟨.ref p, rfl, v', rfl, h1000 (show 2 ≤ 1000 by decide), fun t1 nt1 => ?_⟩
    have s12 := same_upd (o := .tup [.ref p, v']) nt1
    refine ⟨t1, _, rfl, .tup (.inl (.inl upd_same)) (.cons (L11.keep (KeepT.of s12)).lg.dp (.cons (dp_keep (KeepT.of s12) _ _ fx' px') .nil)), f1, f2, f3, ?_⟩
    revert s12
    generalize upd H11 t1 (.tup [.ref p, v']) = H12
    intro s12
    have L12 := L11.keep (KeepT.of s12)
    refine ⟨.ref p, rfl, p, lm, fr, es, rfl, L12.lg, Bd0, fun H13 q13 ns13 s13 hq13 hns => ⟨q13, rfl, ⟨_, .inl (.inl hq13)⟩, ?_⟩⟩
    refine for_list (xs := ns13.map V.int) (fun i' σ H' => ∃ y3 : Option V, σ = [some (.ref d), some (.ref u), some (.ref p), y3, some (.ref B1), some (.ref pl), some (.int (0 + (i : Int))), some v', some (.str (PyData.tuple [logD (fr ++ [lm]) es, x']).shown), none] ∧ Same H13 H') ?_ ?_ ?_ ?_
    · exact ⟨_, rfl, fun _ _ e => e⟩
    · rintro i' σ H' _ ⟨_, rfl, ss⟩
      exact .inl (.inl (ss _ _ hq13))
    · rintro i' y σ H14 hy ⟨y3', rfl, ss⟩
      rw [List.getElem?_map] at hy
      obtain ⟨n, hn, rfl⟩ := Option.map_eq_some_iff.mp hy
      have hn0 := hns n (List.mem_of_getElem? hn)
      have s14 := s12.trans (s13.trans ss)
      have L14 := L11.keep (KeepT.of s14)
      have px14 := dp_keep (KeepT.of s14) _ _ fx' px'
      have he := cx'.ex hin
      refine ⟨.ref p, rfl, v', rfl, .int n, rfl, p, v', n, lm, x', ("+" : Str) :: nms ts cs ++ [], 5, fr, es, rfl, L14.lg, hel, px14, he, Nat.le_trans (flatP_len he) (by decide), by decide, hzl, fun z hz' => hz z (by simpa using hz'), fun H15 s15 => ⟨_, rfl, ?_⟩⟩
      refine ⟨.ref p, rfl, v', rfl, .int n, rfl, p, v', n, lm, x', fr, es, rfl, L14.keep (KeepT.of s15), ok.asc, dp_keep (KeepT.of s15) _ _ fx' px14, cx'.nd hz (fun _ h => absurd h List.not_mem_nil), .inl ⟨_, _, cx'⟩, Nat.le_trans (cx'.letlen 6) (by decide), fun H16 s16 => ⟨_, rfl, rfl, _, rfl, ?_⟩⟩
      rw [may_eq hin cx' (Nat.le_refl _) hn0]
      rw [show ∀ z : Str, (!decide (V.str z = V.str z)) = false from fun z => by rw [decide_eq_true rfl]; rfl]
      exact iteF ⟨_, rfl, ss.trans (s15.trans s16)⟩
    · rintro σ H14 ⟨y3', rfl, ss⟩
      have s14 := s12.trans (s13.trans ss)
      refine ⟨.ref p, rfl, v', rfl, h1000 (show 2 ≤ 1000 by decide), fun t2 nt2 => ?_⟩
      have s15 := same_upd (o := .tup [.ref p, v']) nt2
      refine ⟨t2, _, rfl, .tup (.inl (.inl upd_same)) (.cons (L11.keep (KeepT.of (s14.trans s15))).lg.dp (.cons (dp_keep (KeepT.of (s14.trans s15)) _ _ fx' px') .nil)), f1, f2, f3, ?_⟩
      refine ⟨_, rfl, rfl, _, rfl, ?_⟩
      rw [show ∀ z : Str, (!decide (V.str z = V.str z)) = false from fun z => by rw [decide_eq_true rfl]; rfl]
      exact iteF ⟨_, _, _, _, rfl, ((k9.trans k10).trans k11).trans (Keep.of (s14.trans s15)), (D11.same (s14.trans s15)).mono (by omega)⟩
  · rintro σ H7 ⟨y3, y6, y7, y8, rfl, k7, D7⟩
    exact q _ (k06.trans k7) (D7.mono (by omega))
end
end L20

namespace L20
open PySem PySem.Spec PyProof.Rows L2 GR WX AD
/-! ### what is open may stand nowhere -/
theorem open_key {n : Nat} {x : PyData} (h : freeKey n x = true) : closedE n x = false := by
  unfold closedE
  rw [h, Bool.not_true, Bool.and_false]
theorem open_var {n : Nat} {x y : PyData} {z : Str} (h : y ∈ flatP n x) (e : varName y = some z) : closedE n x = false := by
  unfold closedE
  have : z ∈ vars (lvls n [x]) := List.mem_filterMap.mpr ⟨y, lvls_mem.mpr h, e⟩
  cases hv : vars (lvls n [x]) with
  | nil => rw [hv] at this; cases this
  | cons a r => rfl
theorem no_may {m : Nat} {es : List En} {lm n : Int} {x : PyData} (h : closedE m x = false) : mayD m es lm n x = false := by
  unfold mayD
  rw [h, Bool.false_and, Bool.false_and]
theorem key_at {n : Nat} : freeKey (n + 1) (.tuple [.str "key"]) = true := by
  rw [freeKey, Bool.or_eq_true]
  exact .inl (decide_eq_true rfl)
theorem free_of {n : Nat} {x y : PyData} (h : y ∈ kidsF x) (e : freeKey n y = true) : freeKey (n + 1) x = true := by
  rw [freeKey, Bool.or_eq_true]
  exact .inr (List.any_eq_true.mpr ⟨y, h, e⟩)
theorem flat_self {n : Nat} {x : PyData} : x ∈ flatP (n + 1) x := by
  rw [flatP]
  exact List.mem_cons_self
theorem flat_kid {n : Nat} {x y z : PyData} (h : y ∈ kids x) (e : z ∈ flatP n y) : z ∈ flatP (n + 1) x := by
  rw [flatP]
  exact List.mem_cons_of_mem _ (List.mem_flatMap.mpr ⟨y, h, e⟩)
theorem var_name (z : Str) : varName (.tuple [.str "var", .str z]) = some z := by
  unfold varName
  exact if_pos rfl
abbrev keyX : PyData := .tuple [.str "key"]
abbrev varX (z : Str) : PyData := .tuple [.str "var", .str z]
/-- the six that the law tries -/
def opens (t z : Str) (x : PyData) : List PyData := [keyX, varX z, .tuple [.str "+", x, keyX], .tuple [.str "cell", .str t, varX z, .str "in"], .tuple [.str "at", keyX, x], .tuple [.str "if", x, .tuple [.str "at", x, keyX], varX z]]
theorem opens_cx {zs : List Str} (hi : ("in" : Str) ∈ zs) {t z : Str} (ht : t ∈ zs) {x : PyData} (h : Cx zs [z] false 5 x) : ∀ y, y ∈ opens t z x → Cx zs [z] true 7 y := by
  have k : ∀ n, Cx zs [z] true (n + 1) keyX := fun n => .key n
  have v : ∀ n, Cx zs [z] true (n + 1) (varX z) := fun n => .var true n z List.mem_cons_self
  have f : Cx zs [z] true 6 x := h.free.mono (by decide)
  intro y hy
  simp only [opens, List.mem_cons, List.not_mem_nil, or_false] at hy
  rcases hy with rfl | rfl | rfl | rfl | rfl | rfl
  · exact k 6
  · exact v 6
  · exact .op true 6 "+" _ _ (by decide) f (k 5)
  · exact .cell true 6 t "in" _ ht hi (v 5)
  · exact .at_ true 6 _ _ (k 5) f
  · exact .iff true 6 _ _ _ f (.at_ true 5 _ _ h.free (k 4)) (v 5)
theorem opens_no {t z : Str} {x : PyData} : ∀ y, y ∈ opens t z x → closedE 7 y = false := by
  intro y hy
  simp only [opens, List.mem_cons, List.not_mem_nil, or_false] at hy
  rcases hy with rfl | rfl | rfl | rfl | rfl | rfl
  · exact open_key key_at
  · exact open_var flat_self (var_name z)
  · exact open_key (free_of (y := keyX) (by rw [kidsF_of (fs := ["free", "free"]) (by decide), q_yes (by decide) (by decide), q_yes (by decide) (by decide), q_nil]; exact List.mem_cons_of_mem _ List.mem_cons_self) key_at)
  · exact open_var (flat_kid (y := varX z) (by rw [kids_cell]; exact List.mem_cons_self) flat_self) (var_name z)
  · exact open_key (free_of (y := keyX) (by rw [kidsF_of (fs := ["free", "bound"]) (by decide), q_yes (by decide) (by decide), q_no (by decide) (by decide), q_nil]; exact List.mem_cons_self) key_at)
  · exact open_var (flat_kid (y := varX z) (by rw [kids_if]; exact List.mem_cons_of_mem _ (List.mem_cons_of_mem _ List.mem_cons_self)) flat_self) (var_name z)
/-- without lets -/
theorem Cx.part_no {zs sc : List Str} (hm : ("+" : Str) ∉ zs) {b : Bool} {n : Nat} {x : PyData} (h : Cx zs sc b n x) : isLet x = false := by
  cases h with
  | int b n i h1 h2 => exact isLet_f (by decide)
  | let_ b n i g9 h1 h2 => exact absurd g9 hm
  | key n => exact isLet_f (by decide)
  | var b n z h1 => exact isLet_f (by decide)
  | cell b n t v x h1 h2 g => exact isLet_f (by decide)
  | op b n o x y h1 g1 g2 =>
    simp only [ops5, List.mem_cons, List.not_mem_nil, or_false] at h1
    rcases h1 with rfl | rfl | rfl | rfl | rfl <;> exact isLet_f (by decide)
  | at_ b n x y g1 g2 => exact isLet_f (by decide)
  | iff b n x y z g1 g2 g3 => exact isLet_f (by decide)
  | agg b n o t p es vs ds g0 g1 g2 g3 g4 g5 g6 g7 =>
    simp only [aggk, List.mem_cons, List.not_mem_nil, or_false, Prod.mk.injEq] at g1
    rcases g1 with ⟨rfl, _⟩ | ⟨rfl, _⟩ | ⟨rfl, _⟩ | ⟨rfl, _⟩ <;> exact isLet_f (by decide)
theorem plus_no {z : Str} (h : Nm z) : z ≠ "+" := by
  rintro rfl
  have := (h.2.2.1 43 (by decide)).1
  omega
theorem may_yes {zs : List Str} (hi : ("in" : Str) ∈ zs) (hz : ∀ z, z ∈ zs → Nm z) {m : Nat} {es : List En} {lm : Int} {x : PyData} (h : Cx zs [] false m x) (h0 : 0 ≤ lm) : mayD m es lm lm x = true := by
  unfold mayD
  rw [h.closed hi, decide_eq_true h0, decide_eq_true (Int.le_refl lm)]
  have : (lvls m [x]).filter isLet = [] := by
    rw [List.filter_eq_nil_iff]
    intro y hy
    obtain ⟨b', k, hk⟩ := h.parts hi y (lvls_mem.mp hy)
    rw [hk.part_no fun z => plus_no (hz _ z) rfl]
    exact Bool.false_ne_true
  rw [this]
  rfl
end L20

namespace L20
open PySem PySem.Spec PyProof.Rows L2 GR WX AD
section
variable {P : Program} {w : World} {K : PySem.W.Frag} {mg : Str → Option Value} {base : Heap}
abbrev s_law_open_right : Stmt := topS 32
abbrev N_or : List Str := ["_law_deck_here", "_law_world_here", "_law_made", "_law_thing", "_law_name", "_law_some", "_law_position", "_law_one"]
theorem sc_law_open_right : FnScope N_or ps_sr (defScope s_law_open_right) := ⟨rfl, rfl, rfl, by decide +kernel, rfl, by decide +kernel, by decide +kernel⟩
abbrev rNB : R2 := fun x y H Q => ∃ a b, x = .bl a ∧ y = .bl b ∧ Q (.bl (!decide (a = b))) H
theorem ok_open_right {f f_ex f_may : Addr} {fd d_ex d_may : FuncData} {k : Nat} (F : Fun K "_law_open_right" "_law_open_right" s_law_open_right f fd)
    (Gx : FnOk P w K mg base CX0 k f_ex d_ex ps_ex (sp_expr K 3)) (gx : mg "_law_expression" = some (.ref f_ex)) (Kx : PySem.W.keepIn K (.ref f_ex) = true) (bx : Binds K d_ex ps_ex [])
    (Gm : FnOk P w K mg base CX0 k f_may d_may ["log", "expression", "position"] (sp_may K)) (gm : mg "may_stand" = some (.ref f_may)) (Km : PySem.W.keepIn K (.ref f_may) = true) (bm : Binds K d_may ["log", "expression", "position"] []) :
    FnOk P w K mg base CX0 (k + 1) f fd ps_sr (sp_sr K) := by
  have nd := sc_law_open_right.nd
  refine F.ok sc_law_open_right (fun vs H Q E h => ?_) (fun cdv A outer s H vs Q E hr h => ?_)
  · obtain ⟨d, c, u, tl, cl, nl, p, N, ts, cs, ns, ms, es, rfl, _⟩ := h
    rfl
  obtain ⟨d, c, u, tl, cl, nl, p, N, ts, cs, ns, ms, es, rfl, D, hN, W, L, ok, q⟩ := h
  have hu1 := hu_of hr
  have hin : ("in" : Str) ∈ nms ts cs := List.mem_cons_self
  refine ⟨_, (pss_cons (ps_set (i := 3) nd rfl (.inl rfl) (pe_call Gx hr (by rfl) gx Kx bx .nil pass0 (pa_cons (pv 0) (pa_cons (pv 1) (pa_cons pe_int (pa_cons (pe_lst pa_nil) (pa_cons pe_int pa_nil)))))))
      (pss_cons (ps_set (i := 4) nd rfl (.inl rfl) (pe_ix ix_list (pe_dget hu1 (pv 1) pe_str noSl_str) pe_int (fun _ _ => rfl)))
      (Evl.pss_cut (ps_set (i := 5) nd rfl (.inl rfl) (pe_lst (pa_cons (pe_tup (pa_cons pe_str pa_nil)) (pa_cons (pe_tup (pa_cons pe_str (pa_cons (pv 4) pa_nil))) (pa_cons (pe_tup (pa_cons pe_str (pa_cons (pv 3) (pa_cons (pe_tup (pa_cons pe_str pa_nil)) pa_nil)))) (pa_cons (pe_tup (pa_cons pe_str (pa_cons (pe_ix ix_list (pe_dget hu1 (pv 1) pe_str noSl_str) pe_int (fun _ _ => rfl)) (pa_cons (pe_tup (pa_cons pe_str (pa_cons (pv 4) pa_nil))) (pa_cons pe_str pa_nil))))) pa_nil))))))
      (Evl.pss_cut (ps_set (i := 5) nd rfl (.inl rfl) (pe_op op_cat (pv 5) (pe_lst (pa_cons (pe_tup (pa_cons pe_str (pa_cons (pe_tup (pa_cons pe_str pa_nil)) (pa_cons (pv 3) pa_nil)))) (pa_cons (pe_tup (pa_cons pe_str (pa_cons (pv 3) (pa_cons (pe_tup (pa_cons pe_str (pa_cons (pv 3) (pa_cons (pe_tup (pa_cons pe_str pa_nil)) pa_nil)))) (pa_cons (pe_tup (pa_cons pe_str (pa_cons (pv 4) pa_nil))) pa_nil))))) pa_nil)))))
      (pss_cons (ps_for PassesOwn.never rfl (pi_tup (pe_tup (pa_cons pe_int (pa_cons (pe_ix ix_tup (pe_ix ix_tup (pv 2) pe_int (fun _ _ => rfl)) (pe_un un_neg pe_int) (fun _ _ => rfl)) pa_nil)))) (pg_name (i := 6) nd rfl (Or.inr rfl))
        (pss_one (ps_if (pt_cmpR (op_neD hr.units) (pe_lc (own := [("_law_one", 7)]) (tt := tTest (tOp rNB (tCall (sp_may K) [] E0 (tCons (tVar 2) (tCons (tVar 7) (tCons (tVar 6) tNil)))) (tC (.bl false)))) (te := tVar 7) rfl nd (pi_list (pv 5)) (blkOk_by (N := N_or) (sc := defScope s_law_open_right) (by decide +kernel))
            (fun _ _ _ _ _ => (pg_name (i := 7) nd rfl (Or.inl rfl))) (fun _ _ _ _ _ => pts_one (pt_cmpR op_isnot_bl (pe_call Gm hr (by rfl) gm Km bm .nil pass0 (pa_cons (pv 2) (pa_cons (pv 7) (pa_cons (pv 6) pa_nil)))) pe_bl (nomark _))) (fun _ _ _ _ _ => (pv 7))) (pe_lst pa_nil) (nomark _))
          (pss_one (ps_ret pe_bl))
          pss_nil)))
      (pss_one (ps_ret (pe_cmpR op_is_bl (pe_call Gm hr (by rfl) gm Km bm .nil pass0 (pa_cons (pv 2) (pa_cons (pv 3) (pa_cons (pe_ix ix_tup (pe_ix ix_tup (pv 2) pe_int (fun _ _ => rfl)) (pe_un un_neg pe_int) (fun _ _ => rfl)) pa_nil)))) pe_bl (nomark _))))))))), ?_⟩
  obtain ⟨mp, ep, rs, h1, h2, h3, h4⟩ := id L
  have hel := ok.el
  obtain ⟨fr, lm, rfl⟩ : ∃ fr lm, ms = fr ++ [lm] := ⟨ms.dropLast, ms.getLast (fun z => by have := ok.m0; rw [z] at this; exact nomatch this), (List.dropLast_concat_getLast _).symm⟩
  have hlm := ok.mb lm (List.mem_append_right _ List.mem_cons_self)
  have hmt : SqT K H mp (fr.map V.int ++ [.int lm]) := .inl (.inl (by rw [← List.map_singleton (f := V.int), ← List.map_append]; exact h2))
  obtain ⟨z, ns', rfl⟩ : ∃ z r, ns = z :: r := by
    have := W.ln
    cases ns with
    | nil => cases this
    | cons z r => exact ⟨z, r, rfl⟩
  obtain ⟨t, ts', rfl⟩ : ∃ z r, ts = z :: r := by
    have := W.lt
    cases ts with
    | nil => cases this
    | cons z r => exact ⟨z, r, rfl⟩
  have nz := W.an z List.mem_cons_self
  have ht : t ∈ nms (t :: ts') cs := List.mem_cons_of_mem _ (List.mem_append_left _ List.mem_cons_self)
  refine ⟨.ref d, rfl, .ref u, rfl, Nat.zero_le _, fun sc nsc => ?_⟩
  have s0 := same_upd (o := .lst []) nsc
  refine ⟨d, c, u, tl, cl, nl, sc, N, 2, 0, t :: ts', cs, z :: ns', [], rfl, D.same s0, ?_, W.keep (Keep.of s0), ⟨upd_same, D.new nsc, fun z hz => (nomatch hz), Nat.zero_le _⟩, by decide, by decide, by decide, fun H1 v x k1 D1 fx cx px => ?_⟩
  · rw [show dx 3 = 3450 from by decide]
    omega
  rw [show dx 3 = 3450 from by decide] at D1
  replace cx : Cx (nms (t :: ts') cs) [] false 5 x := cx
  replace k1 : Keep d c H H1 := (Keep.of s0).trans k1
  clear s0 nsc
  have W1 := W.keep k1
  have hf := fx.flat
  refine ⟨.ref u, rfl, u, .ref nl, rfl, ?_, nl, _, 0, .str z, rfl, rfl, .inl (.inl W1.hn), at0, ?_⟩
  · rw [← wD_n tl cl nl]
    exact DGet.k (k := .inr "names") W1.dct
  -- the first four
  refine ⟨fun σ' H' => ∃ (l : Addr) (vs : List V), σ' = [some (.ref d), some (.ref u), some (.ref p), some v, some (.str z), some (.ref l), none, none] ∧ Same H1 H' ∧ H' l = some (.lst vs) ∧ vs.length = 4 ∧ DpAll K H' vs [keyX, varX z, .tuple [.str "+", x, keyX], .tuple [.str "cell", .str t, varX z, .str "in"]], ?_, ?_⟩
  · refine ⟨h1000 (show 1 ≤ 1000 by decide), fun p1 n1 => ?_⟩
    have a1 := same_upd (o := .tup [.str "key"]) n1
    have b1 := new_tup (K := K) (.cons (.str "key") .nil) rfl n1
    revert a1 b1
    generalize upd H1 p1 (.tup [.str "key"]) = G1
    intro a1 b1
    refine ⟨.str z, rfl, h1000 (show 2 ≤ 1000 by decide), fun p2 n2 => ?_⟩
    have a2 := same_upd (o := .tup [.str "var", .str z]) n2
    have b2 := new_tup (K := K) (.cons (.str "var") (.cons (.str z) .nil)) rfl n2
    revert a2 b2
    generalize upd G1 p2 (.tup [.str "var", .str z]) = G2
    intro a2 b2
    refine ⟨v, rfl, h1000 (show 1 ≤ 1000 by decide), fun p3 n3 => ?_⟩
    have a3 := same_upd (o := .tup [.str "key"]) n3
    have b3 := new_tup (K := K) (.cons (.str "key") .nil) rfl n3
    revert a3 b3
    generalize upd G2 p3 (.tup [.str "key"]) = G3
    intro a3 b3
    have px3 := dp_keep (KeepT.of (a1.trans (a2.trans a3))) _ _ hf px
    refine ⟨h1000 (show 3 ≤ 1000 by decide), fun p4 n4 => ?_⟩
    have a4 := same_upd (o := .tup [.str "+", v, .ref p3]) n4
    have b4 := new_tup (K := K) (.cons (.str "+") (.cons px3 (.cons b3 .nil))) (by simp only [flatDs, flatD, hf, Bool.and_self]) n4
    revert a4 b4
    generalize upd G3 p4 (.tup [.str "+", v, .ref p3]) = G4
    intro a4 b4
    have s14 := a1.trans (a2.trans (a3.trans a4))
    have W4 := W1.keep (Keep.of s14)
    refine ⟨.ref u, rfl, u, .ref tl, rfl, ?_, tl, _, 0, .str t, rfl, rfl, .inl (.inl W4.ht), at0, .str z, rfl, h1000 (show 2 ≤ 1000 by decide), fun p5 n5 => ?_⟩
    · rw [← wD_t tl cl nl]
      exact DGet.k (k := .inr "tables") W4.dct
    have a5 := same_upd (o := .tup [.str "var", .str z]) n5
    have b5 := new_tup (K := K) (.cons (.str "var") (.cons (.str z) .nil)) rfl n5
    revert a5 b5
    generalize upd G4 p5 (.tup [.str "var", .str z]) = G5
    intro a5 b5
    refine ⟨h1000 (show 4 ≤ 1000 by decide), fun p6 n6 => ?_⟩
    have a6 := same_upd (o := .tup [.str "cell", .str t, .ref p5, .str "in"]) n6
    have b6 := new_tup (K := K) (.cons (.str "cell") (.cons (.str t) (.cons b5 (.cons (.str "in") .nil)))) rfl n6
    revert a6 b6
    generalize upd G5 p6 (.tup [.str "cell", .str t, .ref p5, .str "in"]) = G6
    intro a6 b6
    refine ⟨h1000 (show 4 ≤ 1000 by decide), fun l nl' => ?_⟩
    have a7 := same_upd (o := .lst [.ref p1, .ref p2, .ref p4, .ref p6]) nl'
    refine ⟨l, _, rfl, s14.trans (a5.trans (a6.trans a7)), upd_same, rfl, ?_⟩
    exact .cons (dp_keep (KeepT.of (a2.trans (a3.trans (a4.trans (a5.trans (a6.trans a7)))))) _ _ rfl b1)
      (.cons (dp_keep (KeepT.of (a3.trans (a4.trans (a5.trans (a6.trans a7))))) _ _ rfl b2)
      (.cons (dp_keep (KeepT.of (a5.trans (a6.trans a7))) _ _ (by simp only [flatDs, flatD, hf, Bool.and_self]) b4)
      (.cons (dp_keep (KeepT.of a7) _ _ rfl b6) .nil)))
  rintro σ' H2 ⟨l1, vs1, rfl, s2, hl1, hv1, ha1⟩
  -- all six
  refine ⟨fun σ' H' => ∃ (l : Addr) (vs : List V), σ' = [some (.ref d), some (.ref u), some (.ref p), some v, some (.str z), some (.ref l), none, none] ∧ Same H1 H' ∧ H' l = some (.lst vs) ∧ DpAll K H' vs (opens t z x), ?_, ?_⟩
  · refine ⟨.ref l1, rfl, h1000 (show 1 ≤ 1000 by decide), fun p1 n1 => ?_⟩
    have a1 := same_upd (o := .tup [.str "key"]) n1
    have b1 := new_tup (K := K) (.cons (.str "key") .nil) rfl n1
    revert a1 b1
    generalize upd H2 p1 (.tup [.str "key"]) = G1
    intro a1 b1
    have px1 := dp_keep (KeepT.of (s2.trans a1)) _ _ hf px
    refine ⟨v, rfl, h1000 (show 3 ≤ 1000 by decide), fun p2 n2 => ?_⟩
    have a2 := same_upd (o := .tup [.str "at", .ref p1, v]) n2
    have b2 := new_tup (K := K) (.cons (.str "at") (.cons b1 (.cons px1 .nil))) (by simp only [flatDs, flatD, hf, Bool.and_self]) n2
    revert a2 b2
    generalize upd G1 p2 (.tup [.str "at", .ref p1, v]) = G2
    intro a2 b2
    refine ⟨v, rfl, v, rfl, h1000 (show 1 ≤ 1000 by decide), fun p3 n3 => ?_⟩
    have a3 := same_upd (o := .tup [.str "key"]) n3
    have b3 := new_tup (K := K) (.cons (.str "key") .nil) rfl n3
    revert a3 b3
    generalize upd G2 p3 (.tup [.str "key"]) = G3
    intro a3 b3
    have px3 := dp_keep (KeepT.of (a2.trans a3)) _ _ hf px1
    refine ⟨h1000 (show 3 ≤ 1000 by decide), fun p4 n4 => ?_⟩
    have a4 := same_upd (o := .tup [.str "at", v, .ref p3]) n4
    have b4 := new_tup (K := K) (.cons (.str "at") (.cons px3 (.cons b3 .nil))) (by simp only [flatDs, flatD, hf, Bool.and_self]) n4
    revert a4 b4
    generalize upd G3 p4 (.tup [.str "at", v, .ref p3]) = G4
    intro a4 b4
    refine ⟨.str z, rfl, h1000 (show 2 ≤ 1000 by decide), fun p5 n5 => ?_⟩
    have a5 := same_upd (o := .tup [.str "var", .str z]) n5
    have b5 := new_tup (K := K) (.cons (.str "var") (.cons (.str z) .nil)) rfl n5
    revert a5 b5
    generalize upd G4 p5 (.tup [.str "var", .str z]) = G5
    intro a5 b5
    have px5 := dp_keep (KeepT.of (a4.trans a5)) _ _ hf px3
    refine ⟨h1000 (show 4 ≤ 1000 by decide), fun p6 n6 => ?_⟩
    have a6 := same_upd (o := .tup [.str "if", v, .ref p4, .ref p5]) n6
    have b6 := new_tup (K := K) (.cons (.str "if") (.cons px5 (.cons (dp_keep (KeepT.of a5) _ _ (by simp only [flatDs, flatD, hf, Bool.and_self]) b4) (.cons b5 .nil)))) (by simp only [flatDs, flatD, hf, Bool.and_self]) n6
    revert a6 b6
    generalize upd G5 p6 (.tup [.str "if", v, .ref p4, .ref p5]) = G6
    intro a6 b6
    refine ⟨h1000 (show 2 ≤ 1000 by decide), fun l2 nl2 => ?_⟩
    have a7 := same_upd (o := .lst [.ref p2, .ref p6]) nl2
    have s17 := a1.trans (a2.trans (a3.trans (a4.trans (a5.trans (a6.trans a7)))))
    refine ⟨l1, l2, _, _, rfl, rfl, s17 _ _ hl1, upd_same, h1000 (by rw [hv1]; show 4 + 2 ≤ 1000; decide), fun l nl' => ?_⟩
    have a8 := same_upd (o := .lst (vs1 ++ [.ref p2, .ref p6])) nl'
    refine ⟨l, _, rfl, s2.trans (s17.trans a8), upd_same, ?_⟩
    exact dpAll_append (ds := [keyX, varX z, .tuple [.str "+", x, keyX], .tuple [.str "cell", .str t, varX z, .str "in"]]) (dp_keepAll (KeepT.of (s17.trans a8)) _ _ (by simp only [flatDs, flatD, hf, Bool.and_self]) ha1)
      (.cons (dp_keep (KeepT.of (a3.trans (a4.trans (a5.trans (a6.trans (a7.trans a8)))))) _ _ (by simp only [flatDs, flatD, hf, Bool.and_self]) b2)
      (.cons (dp_keep (KeepT.of (a7.trans a8)) _ _ (by simp only [flatDs, flatD, hf, Bool.and_self]) b6) .nil))
  rintro σ' H3 ⟨l, vs, rfl, s3, hl3, ha3⟩
  clear hl1 hv1 ha1
  have k3 : Keep d c H H3 := k1.trans (Keep.of s3)
  have L3 := L.keep (k3.t D)
  have hcx := opens_cx (t := t) hin ht (Cx.wide (fun _ h => h) (fun _ h => absurd h List.not_mem_nil) cx : Cx (nms (t :: ts') cs) [z] false 5 x)
  have hz : ∀ y, y ∈ nms (t :: ts') cs → PyData.strOk y = true := fun y hy => nm_ok (W.nms y hy)
  have hzl : (nms (t :: ts') cs).length ≤ 10 := by
    have := W.lt
    have := W.lc
    rw [List.length_cons, List.length_append]
    omega
  have hmt3 := (k3.t D).seqt hmt
  have h13 := (k3.t D).1 _ _ h1
  have hfo : flatDs (opens t z x) = true := by simp only [opens, flatDs, flatD, hf, Bool.and_self]
  have hla := dpAll_len ha3
  refine ⟨.ref p, rfl, p, _, 0, .ref mp, rfl, rfl, .inl (.inl h13), at0, 1, rfl, mp, _, -1, .int lm, rfl, rfl, hmt3, atI_last _ _, h1000 (show 2 ≤ 1000 by decide), fun tt ntt => ?_⟩
  have st := same_upd (o := .tup [.int 0, .int lm]) ntt
  have htt : upd H3 tt (.tup [.int 0, .int lm]) tt = some (.tup [.int 0, .int lm]) := upd_same
  revert st htt
  generalize upd H3 tt (.tup [.int 0, .int lm]) = H4
  intro st htt
  refine ⟨tt, rfl, ⟨_, .inl (.inl htt)⟩, ?_⟩
  refine for_tup (xs := [.int 0, .int lm]) (fun i σ H' => ∃ y6 : Option V, σ = [some (.ref d), some (.ref u), some (.ref p), some v, some (.str z), some (.ref l), y6, none] ∧ Same H4 H') ?_ ?_ ?_ ?_
  · exact ⟨_, rfl, fun _ _ e => e⟩
  · rintro i σ H' _ ⟨_, rfl, ss⟩
    exact .inl (.inl (ss _ _ htt))
  · rintro i y σ H5 hy ⟨y6, rfl, ss⟩
    obtain ⟨n, rfl⟩ : ∃ n : Int, y = .int n := by
      have := List.mem_of_getElem? hy
      simp only [List.mem_cons, List.not_mem_nil, or_false] at this
      rcases this with rfl | rfl <;> exact ⟨_, rfl⟩
    have s35 := st.trans ss
    refine ⟨.ref l, rfl, l, rfl, ⟨_, .inl (.inl (s35 _ _ hl3))⟩, fun B nB => ?_⟩
    refine lc_list (xs := vs) (fun j H' => H' B = some (.lst []) ∧ ∀ b o, b ≠ B → H5 b = some o → H' b = some o) ?_ ?_ ?_ ?_
    · exact ⟨upd_same, fun b o nb e => by rw [upd_ne nb]; exact e⟩
    · rintro j H' _ ⟨_, kp⟩
      exact .inl (.inl (kp _ _ (ne_of_none (s35 _ _ hl3) nB) (s35 _ _ hl3)))
    · rintro j y H' hy' ⟨hB, kp⟩
      have s5' : Same H5 H' := fun b o e => kp b o (ne_of_none e nB) e
      have s3' := s35.trans s5'
      obtain ⟨e, he, hd⟩ := dpAll_at (dp_keepAll (KeepT.of s3') _ _ hfo ha3) hy'
      have hem := List.mem_of_getElem? he
      have hEx := (hcx e hem).ex hin
      refine ⟨rfl, .ref p, rfl, y, rfl, .int n, rfl, p, y, n, lm, e, nms (t :: ts') cs ++ [z], 7, fr, es, rfl, (L3.keep (KeepT.of s3')).lg, hel, hd, hEx, Nat.le_trans (flatP_len hEx) (by decide), by decide, by rw [List.length_append]; show _ + 1 ≤ 60; omega, fun y hy => ?_, fun H6 s6 => ?_⟩
      · rcases List.mem_append.mp hy with hy | hy
        · exact hz y hy
        · rw [List.mem_singleton.mp hy]
          exact nm_ok nz
      · rw [no_may (opens_no e hem)]
        refine ⟨false, false, rfl, rfl, _, rfl, ?_⟩
        exact iteF ⟨s6 _ _ hB, fun b o nb e => s6 _ _ (kp b o nb e)⟩
    · rintro H6 ⟨hB, kp⟩
      have s56 : Same H5 H6 := fun b o e => kp b o (ne_of_none e nB) e
      refine ⟨Nat.zero_le _, fun l' nl' => ?_⟩
      have sl := same_upd (o := .lst []) nl'
      refine ⟨.list [], .list [], .lst (.inl (.inl (sl _ _ hB))) .nil, .lst (.inl (.inl upd_same)) .nil, rfl, rfl, _, rfl, ?_⟩
      exact iteF ⟨_, rfl, ss.trans (s56.trans sl)⟩
  · rintro σ H5 ⟨y6, rfl, ss⟩
    have s35 := st.trans ss
    have hEx := cx.ex hin
    refine ⟨.ref p, rfl, v, rfl, .ref p, rfl, p, _, 0, .ref mp, rfl, rfl, .inl (.inl (s35 _ _ h13)), at0, 1, rfl, mp, _, -1, .int lm, rfl, rfl, (KeepT.of s35).seqt hmt3, atI_last _ _, p, v, lm, lm, x, nms (t :: ts') cs ++ [], 5, fr, es, rfl, (L3.keep (KeepT.of s35)).lg, hel, dp_keep (KeepT.of (s3.trans s35)) _ _ hf px, hEx, Nat.le_trans (flatP_len hEx) (by decide), by decide, by rw [List.append_nil]; omega, fun y hy => hz y (by simpa using hy), fun H6 s6 => ?_⟩
    rw [may_yes hin W.nms cx hlm.1]
    refine ⟨true, true, rfl, rfl, ?_⟩
    exact q H6 (k3.trans (Keep.of (s35.trans s6))) ((D1.same (s3.trans (s35.trans s6))).mono (by omega))
end
end L20

namespace L20
open PySem PySem.Spec PyProof.Rows L2 GR WX AD
theorem in_pe (wd : Str) : inV (.str wd) [.str "put", .str "each"] = decide (wd = "put" ∨ wd = "each") := by
  refine (wanted_in wd ["put", "each"]).trans (decide_eq_decide.mpr ?_)
  simp only [List.mem_cons, List.not_mem_nil, or_false]
theorem wOf_in {t c : Str} {n : Int} {es : List En} : ∀ i, i ∈ wOf t c n es → ∃ e, e ∈ es ∧ e.1 = i := fun i h => by
  unfold wOf at h
  obtain ⟨e, he, rfl⟩ := List.mem_map.mp h
  exact ⟨e, (List.mem_filter.mp he).1, rfl⟩
section
variable {P : Program} {w : World} {K : PySem.W.Frag} {mg : Str → Option Value} {base : Heap}
abbrev s_law_writers_right : Stmt := topS 33
abbrev N_wr2 : List Str := ["_law_world_here", "_law_made", "_law_before", "_law_table", "_law_column", "_law_position", "_law_due", "_law_place", "_law_statement_here"]
theorem sc_law_writers_right : FnScope N_wr2 ["_law_world_here", "_law_made"] (defScope s_law_writers_right) := ⟨rfl, rfl, rfl, by decide +kernel, rfl, by decide +kernel, by decide +kernel⟩
def sp_wright (K : PySem.W.Frag) : Sp := fun vs H Q _ => ∃ (d c u tl cl nl p : Addr) (ts cs ns : List Str) (ms : List Int) (es : List En), vs = [.ref u, .ref p] ∧ Wd H d c u tl cl nl ts cs ns ∧ LgF K H p ms es ∧ OkL ms es ∧ ∀ H', Same H H' → Q (.bl true) H'
theorem ok_writers_right {f f_w f_pos : Addr} {fd d_w d_pos : FuncData} {k : Nat} (F : Fun K "_law_writers_right" "_law_writers_right" s_law_writers_right f fd)
    (Gw : FnOk P w K mg base CX0 k f_w d_w ["log", "table", "column", "position"] (sp_writers K)) (gw : mg "writers" = some (.ref f_w)) (Kw : PySem.W.keepIn K (.ref f_w) = true) (bw : Binds K d_w ["log", "table", "column", "position"] [])
    (Gp : FnOk P w K mg base CX0 k f_pos d_pos ["_law_made"] (sp_pos K)) (gp : mg "_law_positions" = some (.ref f_pos)) (Kp : PySem.W.keepIn K (.ref f_pos) = true) (bp : Binds K d_pos ["_law_made"] [])
    (mrepr : mg "repr" = none) (mtuple : mg "tuple" = none) (mint : mg "int" = none) : FnG P w K mg base CX0 (k + 1) f fd ["_law_world_here", "_law_made"] (sp_wright K) := by
  have nd := sc_law_writers_right.nd
  refine ok_g F sc_law_writers_right (fun vs H Q E h => ?_) (fun cdv A outer s H vs Q E hg hr h => ?_)
  · obtain ⟨d, c, u, tl, cl, nl, p, ts, cs, ns, ms, es, rfl, _⟩ := h
    rfl
  obtain ⟨d, c, u, tl, cl, nl, p, ts, cs, ns, ms, es, rfl, W, L, ok, q⟩ := h
  have hu1 := hu_of hr
  refine ⟨_, (pss_cons (ps_set (i := 2) nd rfl (.inl rfl) (pe_callB (call_reprD hg hr) (by rfl) mrepr boot_repr (pa_cons (pv 1) pa_nil)))
      (pss_cons (ps_for PassesOwn.never rfl (pi_list (pe_op op_cat (pe_dget hu1 (pv 0) pe_str noSl_str) (pe_lst (pa_cons pe_str pa_nil)))) (pg_name (i := 3) nd rfl (Or.inl rfl))
        (pss_one (ps_for PassesOwn.never rfl (pi_list (pe_op op_cat (pe_dget hu1 (pv 0) pe_str noSl_str) (pe_dget hu1 (pv 0) pe_str noSl_str))) (pg_name (i := 4) nd rfl (Or.inl rfl))
          (pss_one (ps_for PassesOwn.never rfl (pi_list (pe_call Gp hr (by rfl) gp Kp bp .nil pass0 (pa_cons (pv 1) pa_nil))) (pg_name (i := 5) nd rfl (Or.inl rfl))
            (pss_cons (ps_set (i := 6) nd rfl (.inl rfl) (pe_lst pa_nil))
            (pss_cons (ps_for PassesOwn.never rfl (pi_tup (pe_ix ix_tup (pv 1) pe_int (fun _ _ => rfl))) (pg_tup rfl (pgs_cons (pg_name (i := 7) nd rfl (Or.inl rfl)) (pgs_cons (pg_name (i := 8) nd rfl (Or.inl rfl)) pgs_nil)))
              (pss_one (ps_if (PW.pt (pw_and (pt_cmpR op_lt (pv 7) (pv 5) (nomark _)) (pw_and1 (pt_cmpR op_in_seq (pe_ix ix_tup (pv 8) pe_int (fun _ _ => rfl)) (pe_tup (pa_cons pe_str (pa_cons pe_str pa_nil))) (by rfl)))))
                (pss_one (ps_set (i := 6) nd rfl (.inl rfl) (pe_op op_cat (pv 6) (pe_op op_rep (pe_lst (pa_cons (pv 7) pa_nil)) (pe_callTy call_int1 (by rfl) mint boot_int (pa_cons (pe_cmpR (op_eqD hr.units) (pe_tup (pa_cons (pe_ix ix_tup (pv 8) pe_int (fun _ _ => rfl)) (pa_cons (pe_ix ix_tup (pv 8) pe_int (fun _ _ => rfl)) pa_nil))) (pe_tup (pa_cons (pv 3) (pa_cons (pv 4) pa_nil))) (nomark _)) pa_nil))))))
                pss_nil)))
            (pss_one (ps_if (pt_cmpR op_ne (pe_callB (call_reprD hg hr) (by rfl) mrepr boot_repr (pa_cons (pe_call Gw hr (by rfl) gw Kw bw .nil pass0 (pa_cons (pv 1) (pa_cons (pv 3) (pa_cons (pv 4) (pa_cons (pv 5) pa_nil))))) pa_nil)) (pe_callB (call_reprD hg hr) (by rfl) mrepr boot_repr (pa_cons (pe_callTy call_tuple_of (by rfl) mtuple boot_tuple (pa_cons (pv 6) pa_nil)) pa_nil)) (nomark _))
              (pss_one (ps_ret pe_bl))
              pss_nil)))))))))
      (pss_one (ps_ret (pe_cmpR op_eq (pe_callB (call_reprD hg hr) (by rfl) mrepr boot_repr (pa_cons (pv 1) pa_nil)) (pv 2) (nomark _)))))), ?_⟩
  obtain ⟨mp, ep, rs, h1, h2, h3, h4⟩ := id L
  have hl := ens_len h4
  have hel := ok.el
  have h3q : SqT K H ep (rs.map V.ref) := h3.sq
  obtain ⟨f1, f2, f3⟩ := fshow (L.lg.fine ok) (by decide) (by decide)
  obtain ⟨fr, lm, rfl⟩ : ∃ fr lm, ms = fr ++ [lm] := ⟨ms.dropLast, ms.getLast (fun z => by have := ok.m0; rw [z] at this; exact nomatch this), (List.dropLast_concat_getLast _).symm⟩
  have hlm := ok.mb lm (List.mem_append_right _ List.mem_cons_self)
  have Bd0 : Bd lm es := ⟨hlm.1, fun e he => (ok.eb e he).1, hel⟩
  have dgt : ∀ {H'}, Same H H' → DGet H' u (.str "tables") (some (.ref tl)) ∧ H' tl = some (.lst (ts.map V.str)) := fun {H'} s => by
    have W' := W.keep (Keep.of s)
    exact ⟨by rw [← wD_t tl cl nl]; exact DGet.k (k := .inr "tables") W'.dct, W'.ht⟩
  have dgc : ∀ {H'}, Same H H' → DGet H' u (.str "columns") (some (.ref cl)) ∧ H' cl = some (.lst (cs.map V.str)) := fun {H'} s => by
    have W' := W.keep (Keep.of s)
    exact ⟨by rw [← wD_c tl cl nl]; exact DGet.k (k := .inr "columns") W'.dct, W'.hc⟩
  have hlt := W.lt
  have hlc := W.lc
  have okt : ∀ z, z ∈ ts ++ [("qq" : Str)] → PyData.strOk z = true := fun z hz => by
    rcases List.mem_append.mp hz with hz | hz
    · exact nm_ok (W.at' z hz)
    · rw [List.mem_singleton.mp hz]; decide +kernel
  have okc : ∀ z, z ∈ cs ++ ts → PyData.strOk z = true := fun z hz => by
    rcases List.mem_append.mp hz with hz | hz
    · exact nm_ok (W.ac z hz)
    · exact nm_ok (W.at' z hz)
  refine ⟨.ref p, rfl, p, logD (fr ++ [lm]) es, rfl, L.lg.dp, f1, f2, f3, ?_⟩
  generalize hbe : (logD (fr ++ [lm]) es).shown = before
  have d0 := dgt (H' := H) (fun _ _ e => e)
  refine ⟨.ref u, rfl, u, .ref tl, rfl, d0.1, h1000 (show 1 ≤ 1000 by decide), fun la nla => ?_⟩
  have sa := same_upd (o := .lst [.str "qq"]) nla
  refine ⟨tl, la, _, _, rfl, rfl, sa _ _ d0.2, upd_same, h1000 (by rw [List.length_map, hlt]; decide), fun lb nlb => ?_⟩
  have sb := sa.trans (same_upd (o := .lst (ts.map V.str ++ [.str "qq"])) nlb)
  have hlb : upd (upd H la (.lst [.str "qq"])) lb (.lst (ts.map V.str ++ [.str "qq"])) lb = some (.lst ((ts ++ [("qq" : Str)]).map V.str)) := by rw [List.map_append]; exact upd_same
  revert sb hlb
  generalize upd (upd H la (.lst [.str "qq"])) lb (.lst (ts.map V.str ++ [.str "qq"])) = H1
  intro sb hlb
  clear sa
  refine ⟨lb, rfl, ⟨_, .inl (.inl hlb)⟩, ?_⟩
  -- the tables
  refine for_list (xs := (ts ++ [("qq" : Str)]).map V.str) (fun i σ H' => ∃ y3 y4 y5 y6 y7 y8 : Option V, σ = [some (.ref u), some (.ref p), some (.str before), y3, y4, y5, y6, y7, y8] ∧ Same H1 H') ?_ ?_ ?_ ?_
  · exact ⟨_, _, _, _, _, _, rfl, fun _ _ e => e⟩
  · rintro i σ H' _ ⟨_, _, _, _, _, _, rfl, ss⟩
    exact .inl (.inl (ss _ _ hlb))
  · rintro i tv σ H2 hi ⟨y3, y4, y5, y6, y7, y8, rfl, s2⟩
    rw [List.getElem?_map] at hi
    obtain ⟨t, ht, rfl⟩ := Option.map_eq_some_iff.mp hi
    have htok := okt t (List.mem_of_getElem? ht)
    have s02 := sb.trans s2
    have d1 := dgc s02
    have d2 := dgt s02
    refine ⟨.ref u, rfl, u, .ref cl, rfl, d1.1, .ref u, rfl, u, .ref tl, rfl, d2.1, cl, tl, _, _, rfl, rfl, d1.2, d2.2, h1000 (by rw [List.length_map, List.length_map, hlt, hlc]; decide), fun lc' nlc => ?_⟩
    have s3 := same_upd (o := .lst (cs.map V.str ++ ts.map V.str)) nlc
    have hlc' : upd H2 lc' (.lst (cs.map V.str ++ ts.map V.str)) lc' = some (.lst ((cs ++ ts).map V.str)) := by rw [List.map_append]; exact upd_same
    revert s3 hlc'
    generalize upd H2 lc' (.lst (cs.map V.str ++ ts.map V.str)) = H3
    intro s3 hlc'
    refine ⟨lc', rfl, ⟨_, .inl (.inl hlc')⟩, ?_⟩
    -- the columns
    refine for_list (xs := (cs ++ ts).map V.str) (fun i σ H' => ∃ y4 y5 y6 y7 y8 : Option V, σ = [some (.ref u), some (.ref p), some (.str before), some (.str t), y4, y5, y6, y7, y8] ∧ Same H3 H') ?_ ?_ ?_ ?_
    · exact ⟨_, _, _, _, _, rfl, fun _ _ e => e⟩
    · rintro i σ H' _ ⟨_, _, _, _, _, rfl, ss⟩
      exact .inl (.inl (ss _ _ hlc'))
    · rintro j cv σ H4 hj ⟨y4, y5, y6, y7, y8, rfl, s4⟩
      rw [List.getElem?_map] at hj
      obtain ⟨c', hc', rfl⟩ := Option.map_eq_some_iff.mp hj
      have hcok := okc c' (List.mem_of_getElem? hc')
      have s04 := s02.trans (s3.trans s4)
      refine ⟨.ref p, rfl, p, lm, fr, es, rfl, (L.keep (KeepT.of s04)).lg, Bd0, fun H5 q5 ns5 s5 hq5 hns => ⟨q5, rfl, ⟨_, .inl (.inl hq5)⟩, ?_⟩⟩
      -- the positions
      refine for_list (xs := ns5.map V.int) (fun i σ H' => ∃ y5 y6 y7 y8 : Option V, σ = [some (.ref u), some (.ref p), some (.str before), some (.str t), some (.str c'), y5, y6, y7, y8] ∧ Same H5 H') ?_ ?_ ?_ ?_
      · exact ⟨_, _, _, _, rfl, fun _ _ e => e⟩
      · rintro i σ H' _ ⟨_, _, _, _, rfl, ss⟩
        exact .inl (.inl (ss _ _ hq5))
      · rintro m nv σ H6 hm ⟨y5, y6, y7, y8, rfl, s6⟩
        rw [List.getElem?_map] at hm
        obtain ⟨n, hn, rfl⟩ := Option.map_eq_some_iff.mp hm
        have s06 := s04.trans (s5.trans s6)
        refine ⟨Nat.zero_le _, fun dl ndl => ?_⟩
        have s7 := same_upd (o := .lst []) ndl
        refine ⟨.ref p, rfl, p, _, 1, .ref ep, rfl, rfl, .inl (.inl (s7 _ _ (s06 _ _ h1))), rfl, ep, rfl, ⟨_, (KeepT.of (s06.trans s7)).seqt h3q⟩, ?_⟩
        -- the entries
        refine for_tup (xs := rs.map V.ref) (fun i σ H' => ∃ (dl : Addr) (y7 y8 : Option V), σ = [some (.ref u), some (.ref p), some (.str before), some (.str t), some (.str c'), some (.int n), some (.ref dl), y7, y8] ∧ H' dl = some (.lst ((wOf t c' n (es.take i)).map V.int)) ∧ Same H6 H') ?_ ?_ ?_ ?_
        · exact ⟨dl, _, _, rfl, upd_same, s7⟩
        · rintro i σ H' _ ⟨_, _, _, rfl, _, ss⟩
          exact (KeepT.of (s06.trans ss)).seqt h3q
        · rintro i ev σ H7 he ⟨dl', y7, y8, rfl, hdl, s7⟩
          rw [List.getElem?_map] at he
          obtain ⟨r, hr', rfl⟩ := Option.map_eq_some_iff.mp he
          obtain ⟨e, he, h5⟩ := ens_at h4 hr'
          have h6 := h5.keep (KeepT.of (s06.trans s7))
          have hlen : (wOf t c' n (es.take i)).length ≤ 24 := Nat.le_trans (wOf_len _ _ _ _) (by rw [List.length_take]; omega)
          have hls := wOf_append t c' n (es.take i) [e]
          rw [← take_next he, wOf_one] at hls
          obtain ⟨p', wd, v1, vs', ev, hp', sf, _⟩ := id h6.2
          refine ⟨r, _, rfl, .inl (.inl h6.1), rfl, _, _, rfl, _, _, rfl, rfl, .int e.1, rfl, .int n, rfl, e.1, n, rfl, rfl, _, rfl, ?_⟩
          by_cases c1 : e.1 < n
          case neg =>
            rw [decide_eq_false c1, Bool.false_and, if_neg Bool.false_ne_true, List.append_nil] at hls
            rw [decide_eq_false c1]
            exact iteF ⟨dl', _, _, rfl, by rw [hls]; exact hdl, s7⟩
          rw [decide_eq_true c1, Bool.true_and] at hls
          rw [decide_eq_true c1]
          refine iteT ⟨e.2.1, rfl, p', _, 0, .str wd, ev, rfl, .inl (.inl hp'), atI_nat (j := 0) rfl, h1000 (show 2 ≤ 1000 by decide), fun a na => ?_⟩
          have s8 := same_upd (o := .tup [.str "put", .str "each"]) na
          refine ⟨a, _, rfl, .inr (.inl (.inl upd_same)), rfl, rfl, _, rfl, ?_⟩
          show if inV (.str wd) [.str "put", .str "each"] = true then _ else _
          rw [in_pe]
          have no : ¬ (wd = "put" ∨ wd = "each") → colD e.2.2 = none → (if decide (wd = "put" ∨ wd = "each") = true then False else True) ∧ wOf t c' n (es.take (i + 1)) = wOf t c' n (es.take i) := fun z1 z2 => by
            rw [decide_eq_false z1]
            refine ⟨by rw [if_neg Bool.false_ne_true]; exact trivial, ?_⟩
            rw [hls, z2, decide_eq_false (fun z => nomatch z), if_neg Bool.false_ne_true, List.append_nil]
          rcases sf with ⟨rfl, _, hc, _⟩ | ⟨hw, _, hc, _⟩ | ⟨hw, _, t', e', z', g, rfl, rfl, hc, nt, nz⟩
          · rw [decide_eq_false (show ¬ (("let" : Str) = "put" ∨ ("let" : Str) = "each") by decide)]
            refine iteF ⟨dl', _, _, rfl, ?_, s7.trans s8⟩
            rw [(no (by decide) hc).2]
            exact s8 _ _ hdl
          · have nw : ¬ (wd = "put" ∨ wd = "each") := by rcases hw with rfl | rfl <;> decide
            rw [decide_eq_false nw]
            refine iteF ⟨dl', _, _, rfl, ?_, s7.trans s8⟩
            rw [(no nw hc).2]
            exact s8 _ _ hdl
          · rw [decide_eq_true hw]
            revert s8
            generalize upd H7 a (.tup [.str "put", .str "each"]) = H8
            intro s8
            have hp8 := s8 _ _ hp'
            refine iteT ⟨.ref dl', rfl, .int e.1, rfl, h1000 (show 1 ≤ 1000 by decide), fun l1 n1 => ?_⟩
            have s9 := same_upd (o := .lst [.int e.1]) n1
            have hl1 : upd H8 l1 (.lst [.int e.1]) l1 = some (.lst [.int e.1]) := upd_same
            have hp9 := s9 _ _ hp8
            refine ⟨e.2.1, rfl, p', _, 1, .str t', ev, rfl, .inl (.inl hp9), atI_nat (j := 1) rfl, e.2.1, rfl, p', _, 3, .str z', ev, rfl, .inl (.inl hp9), atI_nat (j := 3) rfl, h1000 (show 2 ≤ 1000 by decide), fun q1 m1 => ?_⟩
            have s10 := same_upd (o := .tup [.str t', .str z']) m1
            refine ⟨.str t, rfl, .str c', rfl, h1000 (show 2 ≤ 1000 by decide), fun q2 m2 => ?_⟩
            have s11 := same_upd (o := .tup [.str t, .str c']) m2
            refine ⟨.tuple [.str t', .str z'], .tuple [.str t, .str c'], .tup (.inl (.inl (s11 _ _ upd_same))) (.cons (.str _) (.cons (.str _) .nil)), .tup (.inl (.inl upd_same)) (.cons (.str _) (.cons (.str _) .nil)), colP_shaped (o := some (t', z')) (fun _ _ e => by cases e; exact ⟨nm_ok nt, nm_ok nz⟩), colP_shaped (o := some (t, c')) (fun _ _ e => by cases e; exact ⟨htok, hcok⟩), ?_⟩
            rw [show PyData.eqv (.tuple [.str t', .str z']) (.tuple [.str t, .str c']) = decide (some (t', z') = some (t, c')) from colP_eqv (o := some (t', z'))]
            rw [hc] at hls
            refine .inr ⟨_, rfl, ?_⟩
            have hl3 := s11 _ _ (s10 _ _ hl1)
            have hd3 := s11 _ _ (s10 _ _ (s9 _ _ (s8 _ _ hdl)))
            have s711 := s7.trans (s8.trans (s9.trans (s10.trans s11)))
            revert hl3 hd3 s711
            generalize upd (upd (upd H8 l1 (.lst [.int e.1])) q1 (.tup [.str t', .str z'])) q2 (.tup [.str t, .str c']) = H11
            intro hl3 hd3 s711
            cases hb : decide (some (t', z') = some (t, c')) with
            | true =>
              rw [hb, if_pos rfl] at hls
              refine ⟨l1, 1, [.int e.1], rfl, rfl, hl3, by decide, by decide, h1000 (show 1 * 1 ≤ 1000 by decide), fun l2 n2 => ?_⟩
              have s12 := same_upd (o := .lst (List.replicate (1 : Int).toNat [.int e.1]).flatten) n2
              refine ⟨dl', l2, _, _, rfl, rfl, s12 _ _ hd3, upd_same, h1000 (by rw [List.length_map]; show _ + 1 ≤ 1000; omega), fun l3 n3 => ?_⟩
              have s13 := same_upd (o := .lst ((wOf t c' n (es.take i)).map V.int ++ (List.replicate (1 : Int).toNat [.int e.1]).flatten)) n3
              refine ⟨l3, _, _, rfl, ?_, s711.trans (s12.trans s13)⟩
              rw [hls, List.map_append]
              exact upd_same
            | false =>
              rw [hb, if_neg Bool.false_ne_true, List.append_nil] at hls
              refine ⟨l1, 0, [.int e.1], rfl, rfl, hl3, by decide, by decide, h1000 (show 1 * 0 ≤ 1000 by decide), fun l2 n2 => ?_⟩
              have s12 := same_upd (o := .lst (List.replicate (0 : Int).toNat [.int e.1]).flatten) n2
              refine ⟨dl', l2, _, _, rfl, rfl, s12 _ _ hd3, upd_same, h1000 (by rw [List.length_map]; show _ + 0 ≤ 1000; omega), fun l3 n3 => ?_⟩
              have s13 := same_upd (o := .lst ((wOf t c' n (es.take i)).map V.int ++ (List.replicate (0 : Int).toNat [.int e.1]).flatten)) n3
              refine ⟨l3, _, _, rfl, ?_, s711.trans (s12.trans s13)⟩
              rw [hls]
              exact upd_same.trans (by rw [show (List.replicate (0 : Int).toNat [V.int e.1]).flatten = [] from rfl, List.append_nil])
        · rintro σ H7 ⟨dl', y7, y8, rfl, hdl, s7⟩
          rw [List.length_map, hl, List.take_length] at hdl
          have s07 := s06.trans s7
          have hwl := wOf_len t c' n es
          have hfw : Fine 1 2000 (.tuple ((wOf t c' n es).map PyData.int)) := ((fines_ints (k := 0) (ms := wOf t c' n es) fun i hi => by
            obtain ⟨e, he, rfl⟩ := wOf_in i hi
            exact ok.eb e he).tup).mono (Nat.le_refl _) (by omega)
          obtain ⟨g1, g2, g3⟩ := fshow hfw (by decide) (by decide)
          refine ⟨.ref p, rfl, .str t, rfl, .str c', rfl, .int n, rfl, p, t, c', n, _, es, rfl, (L.keep (KeepT.of s07)).lg, hel, htok, hcok, fun H8 a s8 ha => ?_⟩
          refine ⟨a, _, rfl, .tup (.inl (.inl ha)) (dp_ints' _), g1, g2, g3, ?_⟩
          refine ⟨.ref dl', rfl, dl', _, rfl, .inl ⟨.inl (.inl (s8 _ _ hdl)), fun b nb => ?_⟩⟩
          have s9 := same_upd (o := .tup ((wOf t c' n es).map V.int)) nb
          refine ⟨b, _, rfl, .tup (.inl (.inl upd_same)) (dp_ints' _), g1, g2, g3, ?_⟩
          refine ⟨rfl, _, rfl, ?_⟩
          rw [show ∀ z : Str, (!decide (V.str z = V.str z)) = false from fun z => by rw [decide_eq_true rfl]; rfl]
          exact iteF ⟨_, _, _, _, rfl, s6.trans (s7.trans (s8.trans s9))⟩
      · rintro σ H6 ⟨y5, y6, y7, y8, rfl, s6⟩
        exact ⟨_, _, _, _, _, rfl, s4.trans (s5.trans s6)⟩
    · rintro σ H4 ⟨y4, y5, y6, y7, y8, rfl, s4⟩
      exact ⟨_, _, _, _, _, _, rfl, s2.trans (s3.trans s4)⟩
  · rintro σ H2 ⟨y3, y4, y5, y6, y7, y8, rfl, s2⟩
    have s02 := sb.trans s2
    refine ⟨.ref p, rfl, p, logD (fr ++ [lm]) es, rfl, (L.keep (KeepT.of s02)).lg.dp, f1, f2, f3, ?_⟩
    rw [hbe]
    refine ⟨_, rfl, rfl, ?_⟩
    rw [decide_eq_true rfl]
    exact q _ s02
end
end L20

namespace L20
open PySem PySem.Spec PyProof.Rows L2 GR WX AD
theorem svs_zip {K : PySem.W.Frag} {H : Hp} : ∀ {us : List V} {ds : List PyData}, SVs K H us ds → ∃ l : List St1, l.map (·.1) = us ∧ ∀ s, s ∈ l → SV K H s.1 s.2
  | _, _, .nil => ⟨[], rfl, fun s hs => (nomatch hs)⟩
  | _, _, .cons (a := u) (b := d) h t => by
    obtain ⟨l, h1, h2⟩ := svs_zip t
    refine ⟨(u, d) :: l, by rw [List.map_cons, h1], fun s hs => ?_⟩
    rcases List.mem_cons.mp hs with rfl | hs
    · exact h
    · exact h2 s hs
theorem seql_same {K : PySem.W.Frag} {H H' : Hp} {a : Addr} {xs : List V} (h : SqL K H a xs) (s : Same H H') : SqL K H' a xs := by
  rcases h with (h | ⟨o, h⟩) | h
  · exact .inl (.inl (s _ _ h))
  · exact .inl (.inr ⟨o, s _ _ h⟩)
  · exact .inr h
theorem Wd.keepB {H H' : Hp} {d c u tl cl nl B : Addr} {ts cs ns : List Str} (W : Wd H d c u tl cl nl ts cs ns) (k : ∀ b o, b ≠ d → b ≠ c → b ≠ B → H b = some o → H' b = some o) (n : H B = none) : Wd H' d c u tl cl nl ts cs ns :=
  ⟨k _ _ W.u0.1 W.u0.2 (ne_of_none W.dct n) W.dct, k _ _ W.t0.1 W.t0.2 (ne_of_none W.ht n) W.ht, k _ _ W.c0.1 W.c0.2 (ne_of_none W.hc n) W.hc, k _ _ W.n0.1 W.n0.2 (ne_of_none W.hn n) W.hn, W.t0, W.c0, W.n0, W.u0, W.lt, W.lc, W.ln, W.at', W.ac, W.an⟩
section
variable {P : Program} {w : World} {K : PySem.W.Frag} {mg : Str → Option Value} {base : Heap}
abbrev s_law : Stmt := topS 34
abbrev N_law : List Str := ["_law_script", "_law_deck_here", "_law_turn", "_law_world_here", "_law_made", "_law_k"]
theorem sc_law : FnScope N_law ["_law_script"] (defScope s_law) := ⟨rfl, rfl, rfl, by decide +kernel, rfl, by decide +kernel, by decide +kernel⟩
def sp_law (K : PySem.W.Frag) : Sp := fun vs H Q _ => ∃ (a : Addr) (ns : List Int), vs = [.ref a] ∧ SqL K H a (ns.map V.int) ∧ ∀ H', Q (.bl true) H'
theorem ok_law {f f_deck f_draw f_world f_tran f_spr f_sr f_wr f_or : Addr} {fd d_deck d_draw d_world d_tran d_spr d_sr d_wr d_or : FuncData} {k : Nat} (F : Fun K "law" "law" s_law f fd)
    (G_deck : FnOk P w K mg base CX0 k f_deck d_deck ["_law_script"] (sp_deck K)) (g_deck : mg "_law_deck" = some (.ref f_deck)) (K_deck : PySem.W.keepIn K (.ref f_deck) = true) (b_deck : Binds K d_deck ["_law_script"] [])
    (G_draw : FnOk P w K mg base CX0 k f_draw d_draw ["_law_deck_here", "_law_most"] sp_draw) (g_draw : mg "_law_draw" = some (.ref f_draw)) (K_draw : PySem.W.keepIn K (.ref f_draw) = true) (b_draw : Binds K d_draw ["_law_deck_here", "_law_most"] [])
    (G_world : FnOk P w K mg base CX0 k f_world d_world ["_law_deck_here"] sp_world) (g_world : mg "_law_world" = some (.ref f_world)) (K_world : PySem.W.keepIn K (.ref f_world) = true) (b_world : Binds K d_world ["_law_deck_here"] [])
    (G_tran : FnOk P w K mg base CX0 k f_tran d_tran ps_tr (sp_tran K)) (g_tran : mg "_law_transaction" = some (.ref f_tran)) (K_tran : PySem.W.keepIn K (.ref f_tran) = true) (b_tran : Binds K d_tran ps_tr [])
    (G_spr : FnOk P w K mg base CX0 k f_spr d_spr ["_law_deck_here", "_law_some"] (sp_spread K)) (g_spr : mg "_law_spread" = some (.ref f_spr)) (K_spr : PySem.W.keepIn K (.ref f_spr) = true) (b_spr : Binds K d_spr ["_law_deck_here", "_law_some"] [])
    (G_sr : FnG P w K mg base CX0 k f_sr d_sr ps_sr (sp_sr K)) (g_sr : mg "_law_stands_right" = some (.ref f_sr)) (K_sr : PySem.W.keepIn K (.ref f_sr) = true) (b_sr : Binds K d_sr ps_sr [])
    (G_wr : FnG P w K mg base CX0 k f_wr d_wr ["_law_world_here", "_law_made"] (sp_wright K)) (g_wr : mg "_law_writers_right" = some (.ref f_wr)) (K_wr : PySem.W.keepIn K (.ref f_wr) = true) (b_wr : Binds K d_wr ["_law_world_here", "_law_made"] [])
    (G_or : FnOk P w K mg base CX0 k f_or d_or ps_sr (sp_sr K)) (g_or : mg "_law_open_right" = some (.ref f_or)) (K_or : PySem.W.keepIn K (.ref f_or) = true) (b_or : Binds K d_or ps_sr [])
    (mrange : mg "range" = none) (mmax : mg "max" = none) (mmin : mg "min" = none) (mlen : mg "len" = none) : FnG P w K mg base CX0 (k + 1) f fd ["_law_script"] (sp_law K) := by
  have nd := sc_law.nd
  refine ok_g F sc_law (fun vs H Q E h => ?_) (fun cdv A outer s H vs Q E hg hr h => ?_)
  · obtain ⟨a, ns, rfl, _⟩ := h
    rfl
  obtain ⟨a, ns, rfl, hS, q⟩ := h
  refine ⟨_, (pss_cons (ps_set (i := 1) nd rfl (.inr rfl) (pe_call G_deck hr (by rfl) g_deck K_deck b_deck .nil pass0 (pa_cons (pv 0) pa_nil)))
      (pss_cons (ps_for PassesOwn.never rfl (pi_range1 rfl mrange (pa_cons (pe_callB (call_max2 rfl) (by rfl) mmax boot_max (pa_cons pe_int (pa_cons (pe_callB (call_min2 rfl) (by rfl) mmin boot_min (pa_cons (pe_callB call_len_seq (by rfl) mlen PySem.boot_len (pa_cons (pv 0) pa_nil)) (pa_cons pe_int pa_nil))) pa_nil))) pa_nil)) (pg_name (i := 2) nd rfl (Or.inl rfl))
      (pss_cons (ps_set (i := 3) nd rfl (.inr rfl) (pe_call G_world hr (by rfl) g_world K_world b_world .nil pass0 (pa_cons (pv 1) pa_nil)))
        (pss_cons (ps_set (i := 4) nd rfl (.inl rfl) (pe_call G_spr hr (by rfl) g_spr K_spr b_spr .nil pass0 (pa_cons (pv 1) (pa_cons (pe_lc (own := [("_law_k", 5)]) (te := tCall (sp_tran K) [] E0 (tCons (tVar 1) (tCons (tVar 3) (tCons (tC (.int 6)) (tCons (tC (.int 2)) tNil))))) rfl nd (pi_range1 rfl mrange (pa_cons (pe_op op_add pe_int (pe_call G_draw hr (by rfl) g_draw K_draw b_draw .nil pass0 (pa_cons (pv 1) (pa_cons pe_int pa_nil)))) pa_nil)) (blkOk_by (N := N_law) (sc := defScope s_law) (by decide +kernel)) (fun _ _ _ _ _ => (pg_name (i := 5) nd rfl (Or.inl rfl))) (fun _ _ _ _ _ => pts_nil) (fun _ _ _ _ _ => (pe_call G_tran hr (by rfl) g_tran K_tran b_tran .nil pass0 (pa_cons (pv 1) (pa_cons (pv 3) (pa_cons pe_int (pa_cons pe_int pa_nil))))))) pa_nil))))
        (pss_cons (ps_if (PW.pt (pw_or (pt_not (pt_val (pe_callG G_sr hg hr (by rfl) g_sr K_sr b_sr pass0 (pa_cons (pv 1) (pa_cons (pv 3) (pa_cons (pv 4) pa_nil)))))) (pw_or1 (pt_not (pt_val (pe_callG G_wr hg hr (by rfl) g_wr K_wr b_wr pass0 (pa_cons (pv 3) (pa_cons (pv 4) pa_nil))))))))
          (pss_one (ps_ret pe_bl))
          pss_nil)
        (pss_one (ps_if (pt_not (pt_val (pe_call G_or hr (by rfl) g_or K_or b_or .nil pass0 (pa_cons (pv 1) (pa_cons (pv 3) (pa_cons (pv 4) pa_nil))))))
          (pss_one (ps_ret pe_bl))
          pss_nil))))))
      (pss_one (ps_ret pe_bl)))), ?_⟩
  refine ⟨.ref a, rfl, a, ns, rfl, hS, fun H1 d c s1 n1 D1 => ?_⟩
  have hS1 : SqL K H1 a (ns.map V.int) := seql_same hS s1
  obtain ⟨m, hm, hm3⟩ : ∃ m : Nat, (if (if (3 : Int) < ((ns.map V.int).length : Int) then 3 else ((ns.map V.int).length : Int)) > 1 then (if (3 : Int) < ((ns.map V.int).length : Int) then 3 else ((ns.map V.int).length : Int)) else 1) = (m : Int) ∧ m ≤ 3 := by
    refine ⟨(if (if (3 : Int) < ((ns.map V.int).length : Int) then 3 else ((ns.map V.int).length : Int)) > 1 then (if (3 : Int) < ((ns.map V.int).length : Int) then 3 else ((ns.map V.int).length : Int)) else 1).toNat, ?_⟩
    split <;> split <;> omega
  refine ⟨.ref a, rfl, a, _, rfl, .inl hS1, _, _, rfl, _, _, rfl, ?_⟩
  rw [hm]
  refine ⟨(m : Int), rfl, by omega, by omega, ?_⟩
  rw [show ((m : Int)).toNat = m by omega]
  refine for_range (n := m) (fun i σ H' => ∃ y2 y3 y4, σ = [some (.ref a), some (.ref d), y2, y3, y4, none] ∧ Deck H' d c (20000000 * (i : Int))) ?_ ?_ ?_
  · exact ⟨none, none, none, rfl, D1.mono (by omega)⟩
  · rintro i σ H2 hi ⟨y2, y3, y4, rfl, D2⟩
    refine ⟨.ref d, rfl, d, c, _, rfl, D2, by omega, fun H3 u tl cl nl ts cs nms k3 D3 nu W3 => ?_⟩
    refine ⟨.ref d, rfl, .ref d, rfl, d, c, _, 4, rfl, D3, by omega, by decide, by decide, fun H4 r k4 D4 r0 r6 => ?_⟩
    obtain ⟨n, hn⟩ := Int.eq_ofNat_of_zero_le (show 0 ≤ 1 + r by omega)
    refine ⟨1, r, rfl, rfl, ?_⟩
    refine ⟨1 + r, rfl, by omega, by omega, fun B nB => ?_⟩
    rw [show (1 + r).toNat = n by omega]
    have hBd := D4.new nB
    have W4 := W3.keep k4
    refine lc_range (n := n) (fun j H' => ∃ T : List (Addr × List St1), H' B = some (.lst (T.map fun t => V.ref t.1)) ∧ T.length = j ∧ (∀ t, t ∈ T → H' t.1 = some (.tup (t.2.map (·.1))) ∧ t.2.length ≤ 6 ∧ ∀ s, s ∈ t.2 → SV K H' s.1 s.2) ∧ Deck H' d c (20000000 * (i : Int) + 31 + 200000 * (j : Int)) ∧ ∀ b o, b ≠ d → b ≠ c → b ≠ B → H4 b = some o → H' b = some o) ?_ ?_ ?_
    · have sB := same_upd (o := .lst []) nB
      exact ⟨[], upd_same, rfl, fun t ht => (nomatch ht), (D4.same sB).mono (by omega), fun b o _ _ _ e => sB _ _ e⟩
    · rintro j H5 hj ⟨T, hB, hTl, hT, D5, kB⟩
      have W5 := W4.keepB kB nB
      refine ⟨rfl, yes_then ⟨.ref d, rfl, .ref u, rfl, d, c, u, tl, cl, nl, _, 2, 6, ts, cs, nms, rfl, by decide, by decide, D5, by omega, W5, fun H6 p us ds k6 D6 hp hus hul => ?_⟩⟩
      obtain ⟨l, hl1, hl2⟩ := svs_zip hus
      have hB6 := k6 _ _ hBd.1 hBd.2 hB
      have kt6 := k6.t D5
      have ktB : KeepT H6 (upd H6 B (.lst ((T.map fun t => V.ref t.1) ++ [.ref p]))) := KeepT.lst hB6
      refine ⟨_, hB6, small1000 (by rw [List.length_map]; omega), T ++ [(p, l)], by rw [List.map_append]; exact upd_same, by rw [List.length_append, hTl]; rfl, fun t ht => ?_, (D6.upd hBd.1 hBd.2).mono (by omega), ?_⟩
      · rcases List.mem_append.mp ht with ht | ht
        · obtain ⟨g1, g2, g3⟩ := hT t ht
          exact ⟨ktB.1 _ _ (kt6.1 _ _ g1), g2, fun s hs => ((g3 s hs).keep kt6).keep ktB⟩
        · rw [List.mem_singleton.mp ht]
          refine ⟨ktB.1 _ _ (by rw [hp, ← hl1]), by rw [← List.length_map (f := (·.1)), hl1]; exact hul, fun s hs => (hl2 s hs).keep ktB⟩
      · exact fun b o n1 n2 n3 e => by rw [upd_ne n3]; exact k6 _ _ n1 n2 (kB b o n1 n2 n3 e)
    · rintro H5 ⟨T, hB, hTl, hT, D5, kB⟩
      have S5 : Sm K H5 B T := ⟨hB, hT, by omega⟩
      refine ⟨d, c, B, _, T, rfl, D5, by omega, S5, hBd.1, hBd.2, fun H6 p6 ms es k6 D6 L6 ok6 => ?_⟩
      have W6 := (W4.keepB kB nB).keep k6
      refine ⟨.ref d, rfl, .ref u, rfl, .ref p6, rfl, d, c, u, tl, cl, nl, p6, _, ts, cs, nms, ms, es, rfl, D6, by omega, W6, L6, ok6, fun H7 k7 D7 => ⟨_, rfl, iteF ?_⟩⟩
      have W7 := W6.keep k7
      have L7 := L6.keep (k7.t D6)
      refine ⟨.ref u, rfl, .ref p6, rfl, d, c, u, tl, cl, nl, p6, ts, cs, nms, ms, es, rfl, W7, L7, ok6, fun H8 s8 => ⟨_, rfl, iteF ?_⟩⟩
      refine ⟨.ref d, rfl, .ref u, rfl, .ref p6, rfl, d, c, u, tl, cl, nl, p6, _, ts, cs, nms, ms, es, rfl, D7.same s8, by omega, W7.keep (Keep.of s8), L7.keep (KeepT.of s8), ok6, fun H9 k9 D9 => ⟨_, rfl, iteF ?_⟩⟩
      exact ⟨_, _, _, rfl, D9.mono (by omega)⟩
  · rintro σ H2 ⟨y2, y3, y4, rfl, D2⟩
    exact q _
end
end L20

namespace L20
open PySem PySem.Spec PyProof.Rows L2 GR WX TX AD
/-- a def stands in the text's top -/
def Has (K : PySem.W.Frag) (x : Str) (st : Stmt) : Prop := ∃ (f : Addr) (fd : FuncData), PySem.W.nsIn K mainGlobals x = some (some (.ref f)) ∧ Fun K x x st f fd
theorem has_mk {K : PySem.W.Frag} {x : Str} {st : Stmt} {f : Addr} {oc : Value} {od an : Option Addr} {osl : Array (Option Value)} {kV doc pm cdv ct : Value} (a : PySem.W.nsIn K mainGlobals x = some (some (.ref f)))
    (l : K.lookup f = some ⟨oc, od, .func (PySem.W.fnOf x x (defArgs st) (defBody st) (defScope st) .none kV doc pm an cdv ct), osl⟩) (c : PySem.W.codeIn K cdv x = true) (k : PySem.W.keepIn K (.ref f) = true) : Has K x st := ⟨f, _, a, fun_mk l c k⟩
/-- a written tuple of texts -/
def KTx (K : PySem.W.Frag) (p : Addr) (fs : List Str) : Prop := ∀ H, SqT K H p (fs.map V.str)
theorem ktx_mk {K : PySem.W.Frag} {p : Addr} {fs : List Str} {d : Option Addr} {its : Array Value} {n : Nat} {sl : Array (Option Value)} (l : K.lookup p = some ⟨.type "tuple", d, .seq its n, sl⟩) (hv : Vals (fs.map V.str) its.toList) (hs : fs.length ≤ 100) : KTx K p fs := fun H =>
  .inr ⟨_, its, n, l, rfl, rfl, by have h1 := hv.length; rw [List.length_map] at h1; have h2 : its.toList.length = its.size := Array.length_toList ..; exact small_le (by omega), hv⟩
theorem flds_mk {K : PySem.W.Frag} {w : World} {fA : Addr} {es : Array DictEntry} {n : Nat} (l : K.lookup fA = some ⟨.type "dict", none, .dict es n, #[]⟩) (kl : PySem.W.KeysLit w.params es.toList)
    {p0 : Addr} (q0 : PySem.W.nsIn K fA "int" = some (some (.ref p0))) (r0 : KTx K p0 ["value"])
    {p1 : Addr} (q1 : PySem.W.nsIn K fA "var" = some (some (.ref p1))) (r1 : KTx K p1 ["name"])
    {p2 : Addr} (q2 : PySem.W.nsIn K fA "key" = some (some (.ref p2))) (r2 : KTx K p2 [])
    {p3 : Addr} (q3 : PySem.W.nsIn K fA "let" = some (some (.ref p3))) (r3 : KTx K p3 ["position"])
    {p4 : Addr} (q4 : PySem.W.nsIn K fA "cell" = some (some (.ref p4))) (r4 : KTx K p4 ["name", "free", "name"])
    {p5 : Addr} (q5 : PySem.W.nsIn K fA "+" = some (some (.ref p5))) (r5 : KTx K p5 ["free", "free"])
    {p6 : Addr} (q6 : PySem.W.nsIn K fA "-" = some (some (.ref p6))) (r6 : KTx K p6 ["free", "free"])
    {p7 : Addr} (q7 : PySem.W.nsIn K fA "*" = some (some (.ref p7))) (r7 : KTx K p7 ["free", "free"])
    {p8 : Addr} (q8 : PySem.W.nsIn K fA "<" = some (some (.ref p8))) (r8 : KTx K p8 ["free", "free"])
    {p9 : Addr} (q9 : PySem.W.nsIn K fA "=" = some (some (.ref p9))) (r9 : KTx K p9 ["free", "free"])
    {p10 : Addr} (q10 : PySem.W.nsIn K fA "if" = some (some (.ref p10))) (r10 : KTx K p10 ["free", "free", "free"])
    {p11 : Addr} (q11 : PySem.W.nsIn K fA "at" = some (some (.ref p11))) (r11 : KTx K p11 ["free", "bound"])
    {p12 : Addr} (q12 : PySem.W.nsIn K fA "count" = some (some (.ref p12))) (r12 : KTx K p12 ["name", "extra", "bound", "bound"])
    {p13 : Addr} (q13 : PySem.W.nsIn K fA "sum" = some (some (.ref p13))) (r13 : KTx K p13 ["name", "extra", "bound", "bound", "bound"])
    {p14 : Addr} (q14 : PySem.W.nsIn K fA "most" = some (some (.ref p14))) (r14 : KTx K p14 ["name", "extra", "bound", "bound", "bound", "free"])
    {p15 : Addr} (q15 : PySem.W.nsIn K fA "first" = some (some (.ref p15))) (r15 : KTx K p15 ["name", "extra", "bound", "bound", "free"])
    : Flds K w fA := by
  intro wd fs h
  simp only [table, List.mem_cons, List.not_mem_nil, or_false, Prod.mk.injEq] at h
  rcases h with ⟨rfl, rfl⟩ | ⟨rfl, rfl⟩ | ⟨rfl, rfl⟩ | ⟨rfl, rfl⟩ | ⟨rfl, rfl⟩ | ⟨rfl, rfl⟩ | ⟨rfl, rfl⟩ | ⟨rfl, rfl⟩ | ⟨rfl, rfl⟩ | ⟨rfl, rfl⟩ | ⟨rfl, rfl⟩ | ⟨rfl, rfl⟩ | ⟨rfl, rfl⟩ | ⟨rfl, rfl⟩ | ⟨rfl, rfl⟩ | ⟨rfl, rfl⟩
  · exact ⟨p0, ⟨es, n, _, l, kl, q0, rfl⟩, r0⟩
  · exact ⟨p1, ⟨es, n, _, l, kl, q1, rfl⟩, r1⟩
  · exact ⟨p2, ⟨es, n, _, l, kl, q2, rfl⟩, r2⟩
  · exact ⟨p3, ⟨es, n, _, l, kl, q3, rfl⟩, r3⟩
  · exact ⟨p4, ⟨es, n, _, l, kl, q4, rfl⟩, r4⟩
  · exact ⟨p5, ⟨es, n, _, l, kl, q5, rfl⟩, r5⟩
  · exact ⟨p6, ⟨es, n, _, l, kl, q6, rfl⟩, r6⟩
  · exact ⟨p7, ⟨es, n, _, l, kl, q7, rfl⟩, r7⟩
  · exact ⟨p8, ⟨es, n, _, l, kl, q8, rfl⟩, r8⟩
  · exact ⟨p9, ⟨es, n, _, l, kl, q9, rfl⟩, r9⟩
  · exact ⟨p10, ⟨es, n, _, l, kl, q10, rfl⟩, r10⟩
  · exact ⟨p11, ⟨es, n, _, l, kl, q11, rfl⟩, r11⟩
  · exact ⟨p12, ⟨es, n, _, l, kl, q12, rfl⟩, r12⟩
  · exact ⟨p13, ⟨es, n, _, l, kl, q13, rfl⟩, r13⟩
  · exact ⟨p14, ⟨es, n, _, l, kl, q14, rfl⟩, r14⟩
  · exact ⟨p15, ⟨es, n, _, l, kl, q15, rfl⟩, r15⟩
theorem all_mk {P : Program} {w : World} {K : PySem.W.Frag} {h : Heap} {mg : Str → Option Value} {fa : Addr} (X : K.In h) (G : h.Ns mainGlobals mg) (hfa : mg "law" = some (.ref fa))
    (X_is_integer : Has K "is_integer" s_is_integer)
    (X_contained : Has K "contained" s_contained)
    (X_contained_free : Has K "contained_free" s_contained_free)
    (X_contained_of : Has K "contained_of" s_contained_of)
    (X_one_deeper : Has K "one_deeper" s_one_deeper)
    (X_all_parts : Has K "all_parts" s_all_parts)
    (X_has_free_key : Has K "has_free_key" s_has_free_key)
    (X_is_closed : Has K "is_closed" s_is_closed)
    (X_variables_of : Has K "variables_of" s_variables_of)
    (X_may_stand : Has K "may_stand" s_may_stand)
    (X_column_of : Has K "column_of" s_column_of)
    (X_writers : Has K "writers" s_writers)
    (X_law_deck : Has K "_law_deck" s_law_deck)
    (X_law_draw : Has K "_law_draw" s_law_draw)
    (X_law_pick : Has K "_law_pick" s_law_pick)
    (X_law_names : Has K "_law_names" s_law_names)
    (X_law_world : Has K "_law_world" s_law_world)
    (X_law_expression : Has K "_law_expression" s_law_expression)
    (X_law_statement : Has K "_law_statement" s_law_statement)
    (X_law_transaction : Has K "_law_transaction" s_law_transaction)
    (X_law_spread : Has K "_law_spread" s_law_spread)
    (X_law_with_lets : Has K "_law_with_lets" s_law_with_lets)
    (X_law_lets_in : Has K "_law_lets_in" s_law_lets_in)
    (X_law_may : Has K "_law_may" s_law_may)
    (X_law_positions : Has K "_law_positions" s_law_positions)
    (X_law_stands_right : Has K "_law_stands_right" s_law_stands_right)
    (X_law_open_right : Has K "_law_open_right" s_law_open_right)
    (X_law_writers_right : Has K "_law_writers_right" s_law_writers_right)
    (X_law : Has K "law" s_law)
    (z_list : PySem.W.nsIn K mainGlobals "list" = some none) (z_sum : PySem.W.nsIn K mainGlobals "sum" = some none) (z_len : PySem.W.nsIn K mainGlobals "len" = some none) (z_range : PySem.W.nsIn K mainGlobals "range" = some none) (z_int : PySem.W.nsIn K mainGlobals "int" = some none) (z_repr : PySem.W.nsIn K mainGlobals "repr" = some none) (z_tuple : PySem.W.nsIn K mainGlobals "tuple" = some none) (z_dict : PySem.W.nsIn K mainGlobals "dict" = some none) (z_min : PySem.W.nsIn K mainGlobals "min" = some none) (z_max : PySem.W.nsIn K mainGlobals "max" = some none) (z_isinstance : PySem.W.nsIn K mainGlobals "isinstance" = some none) (z_bool : PySem.W.nsIn K mainGlobals "bool" = some none) (z_sorted : PySem.W.nsIn K mainGlobals "sorted" = some none) (z_all : PySem.W.nsIn K mainGlobals "all" = some none) (z_zip : PySem.W.nsIn K mainGlobals "zip" = some none) (z_set : PySem.W.nsIn K mainGlobals "set" = some none)
    
    {fA : Addr} (z_FIELDS : PySem.W.nsIn K mainGlobals "FIELDS" = some (some (.ref fA))) (T_FIELDS : Flds K w fA) {aA : Addr} (z_ALL : PySem.W.nsIn K mainGlobals "ALL_PARTS" = some (some (.ref aA))) (T_ALL : KTx K aA W2)
    : ∃ fd : FuncData, (∀ (s : Shared) (v : Value), BindsTo s fd ⟨[v], []⟩ [("_law_script", v)]) ∧ ∀ base : Heap, K.In base → base.Ns mainGlobals mg → FnG P w K mg base CX0 10 fa fd ["_law_script"] (sp_law K) := by
  obtain ⟨fis_integer, dis_integer, ais_integer, Fis_integer⟩ := X_is_integer
  have gis_integer := PySem.W.mg_of X G ais_integer
  have bis_integer : Binds K dis_integer ["thing"] [] := Fis_integer.binds (ps := ["thing"]) fun _ _ _ _ _ _ us hl => match us, hl with | [_], _ => rfl
  obtain ⟨fcontained, dcontained, acontained, Fcontained⟩ := X_contained
  have gcontained := PySem.W.mg_of X G acontained
  have bcontained : Binds K dcontained ["expression"] [] := Fcontained.binds (ps := ["expression"]) fun _ _ _ _ _ _ us hl => match us, hl with | [_], _ => rfl
  obtain ⟨fcontained_free, dcontained_free, acontained_free, Fcontained_free⟩ := X_contained_free
  have gcontained_free := PySem.W.mg_of X G acontained_free
  have bcontained_free : Binds K dcontained_free ["expression"] [] := Fcontained_free.binds (ps := ["expression"]) fun _ _ _ _ _ _ us hl => match us, hl with | [_], _ => rfl
  obtain ⟨fcontained_of, dcontained_of, acontained_of, Fcontained_of⟩ := X_contained_of
  have gcontained_of := PySem.W.mg_of X G acontained_of
  have bcontained_of : Binds K dcontained_of ["expression", "wanted"] [] := Fcontained_of.binds (ps := ["expression", "wanted"]) fun _ _ _ _ _ _ us hl => match us, hl with | [_, _], _ => rfl
  obtain ⟨fone_deeper, done_deeper, aone_deeper, Fone_deeper⟩ := X_one_deeper
  have gone_deeper := PySem.W.mg_of X G aone_deeper
  have bone_deeper : Binds K done_deeper ["expressions"] [] := Fone_deeper.binds (ps := ["expressions"]) fun _ _ _ _ _ _ us hl => match us, hl with | [_], _ => rfl
  obtain ⟨fall_parts, dall_parts, aall_parts, Fall_parts⟩ := X_all_parts
  have gall_parts := PySem.W.mg_of X G aall_parts
  have ball_parts : Binds K dall_parts ["expression"] [] := Fall_parts.binds (ps := ["expression"]) fun _ _ _ _ _ _ us hl => match us, hl with | [_], _ => rfl
  obtain ⟨fhas_free_key, dhas_free_key, ahas_free_key, Fhas_free_key⟩ := X_has_free_key
  have ghas_free_key := PySem.W.mg_of X G ahas_free_key
  have bhas_free_key : Binds K dhas_free_key ["expression"] [] := Fhas_free_key.binds (ps := ["expression"]) fun _ _ _ _ _ _ us hl => match us, hl with | [_], _ => rfl
  obtain ⟨fis_closed, dis_closed, ais_closed, Fis_closed⟩ := X_is_closed
  have gis_closed := PySem.W.mg_of X G ais_closed
  have bis_closed : Binds K dis_closed ["expression"] [] := Fis_closed.binds (ps := ["expression"]) fun _ _ _ _ _ _ us hl => match us, hl with | [_], _ => rfl
  obtain ⟨fvariables_of, dvariables_of, avariables_of, Fvariables_of⟩ := X_variables_of
  have gvariables_of := PySem.W.mg_of X G avariables_of
  have bvariables_of : Binds K dvariables_of ["expression"] [] := Fvariables_of.binds (ps := ["expression"]) fun _ _ _ _ _ _ us hl => match us, hl with | [_], _ => rfl
  obtain ⟨fmay_stand, dmay_stand, amay_stand, Fmay_stand⟩ := X_may_stand
  have gmay_stand := PySem.W.mg_of X G amay_stand
  have bmay_stand : Binds K dmay_stand ["log", "expression", "position"] [] := Fmay_stand.binds (ps := ["log", "expression", "position"]) fun _ _ _ _ _ _ us hl => match us, hl with | [_, _, _], _ => rfl
  obtain ⟨fcolumn_of, dcolumn_of, acolumn_of, Fcolumn_of⟩ := X_column_of
  have gcolumn_of := PySem.W.mg_of X G acolumn_of
  have bcolumn_of : Binds K dcolumn_of ["statement"] [] := Fcolumn_of.binds (ps := ["statement"]) fun _ _ _ _ _ _ us hl => match us, hl with | [_], _ => rfl
  obtain ⟨fwriters, dwriters, awriters, Fwriters⟩ := X_writers
  have gwriters := PySem.W.mg_of X G awriters
  have bwriters : Binds K dwriters ["log", "table", "column", "position"] [] := Fwriters.binds (ps := ["log", "table", "column", "position"]) fun _ _ _ _ _ _ us hl => match us, hl with | [_, _, _, _], _ => rfl
  obtain ⟨f_law_deck, d_law_deck, a_law_deck, F_law_deck⟩ := X_law_deck
  have g_law_deck := PySem.W.mg_of X G a_law_deck
  have b_law_deck : Binds K d_law_deck ["_law_script"] [] := F_law_deck.binds (ps := ["_law_script"]) fun _ _ _ _ _ _ us hl => match us, hl with | [_], _ => rfl
  obtain ⟨f_law_draw, d_law_draw, a_law_draw, F_law_draw⟩ := X_law_draw
  have g_law_draw := PySem.W.mg_of X G a_law_draw
  have b_law_draw : Binds K d_law_draw ["_law_deck_here", "_law_most"] [] := F_law_draw.binds (ps := ["_law_deck_here", "_law_most"]) fun _ _ _ _ _ _ us hl => match us, hl with | [_, _], _ => rfl
  obtain ⟨f_law_pick, d_law_pick, a_law_pick, F_law_pick⟩ := X_law_pick
  have g_law_pick := PySem.W.mg_of X G a_law_pick
  have b_law_pick : Binds K d_law_pick ["_law_deck_here", "_law_some"] [] := F_law_pick.binds (ps := ["_law_deck_here", "_law_some"]) fun _ _ _ _ _ _ us hl => match us, hl with | [_, _], _ => rfl
  obtain ⟨f_law_names, d_law_names, a_law_names, F_law_names⟩ := X_law_names
  have g_law_names := PySem.W.mg_of X G a_law_names
  have b_law_names : Binds K d_law_names ["_law_deck_here", "_law_many"] [] := F_law_names.binds (ps := ["_law_deck_here", "_law_many"]) fun _ _ _ _ _ _ us hl => match us, hl with | [_, _], _ => rfl
  obtain ⟨f_law_world, d_law_world, a_law_world, F_law_world⟩ := X_law_world
  have g_law_world := PySem.W.mg_of X G a_law_world
  have b_law_world : Binds K d_law_world ["_law_deck_here"] [] := F_law_world.binds (ps := ["_law_deck_here"]) fun _ _ _ _ _ _ us hl => match us, hl with | [_], _ => rfl
  obtain ⟨f_law_expression, d_law_expression, a_law_expression, F_law_expression⟩ := X_law_expression
  have g_law_expression := PySem.W.mg_of X G a_law_expression
  have b_law_expression : Binds K d_law_expression ["_law_deck_here", "_law_world_here", "_law_deep", "_law_scope", "_law_loose"] [] := F_law_expression.binds (ps := ["_law_deck_here", "_law_world_here", "_law_deep", "_law_scope", "_law_loose"]) fun _ _ _ _ _ _ us hl => match us, hl with | [_, _, _, _, _], _ => rfl
  obtain ⟨f_law_statement, d_law_statement, a_law_statement, F_law_statement⟩ := X_law_statement
  have g_law_statement := PySem.W.mg_of X G a_law_statement
  have b_law_statement : Binds K d_law_statement ["_law_deck_here", "_law_world_here", "_law_scope", "_law_deep"] [] := F_law_statement.binds (ps := ["_law_deck_here", "_law_world_here", "_law_scope", "_law_deep"]) fun _ _ _ _ _ _ us hl => match us, hl with | [_, _, _, _], _ => rfl
  obtain ⟨f_law_transaction, d_law_transaction, a_law_transaction, F_law_transaction⟩ := X_law_transaction
  have g_law_transaction := PySem.W.mg_of X G a_law_transaction
  have b_law_transaction : Binds K d_law_transaction ["_law_deck_here", "_law_world_here", "_law_most", "_law_deep"] [] := F_law_transaction.binds (ps := ["_law_deck_here", "_law_world_here", "_law_most", "_law_deep"]) fun _ _ _ _ _ _ us hl => match us, hl with | [_, _, _, _], _ => rfl
  obtain ⟨f_law_spread, d_law_spread, a_law_spread, F_law_spread⟩ := X_law_spread
  have g_law_spread := PySem.W.mg_of X G a_law_spread
  have b_law_spread : Binds K d_law_spread ["_law_deck_here", "_law_some"] [] := F_law_spread.binds (ps := ["_law_deck_here", "_law_some"]) fun _ _ _ _ _ _ us hl => match us, hl with | [_, _], _ => rfl
  obtain ⟨f_law_with_lets, d_law_with_lets, a_law_with_lets, F_law_with_lets⟩ := X_law_with_lets
  have g_law_with_lets := PySem.W.mg_of X G a_law_with_lets
  have b_law_with_lets : Binds K d_law_with_lets ["_law_deck_here", "_law_thing", "_law_places"] [] := F_law_with_lets.binds (ps := ["_law_deck_here", "_law_thing", "_law_places"]) fun _ _ _ _ _ _ us hl => match us, hl with | [_, _, _], _ => rfl
  obtain ⟨f_law_lets_in, d_law_lets_in, a_law_lets_in, F_law_lets_in⟩ := X_law_lets_in
  have g_law_lets_in := PySem.W.mg_of X G a_law_lets_in
  have b_law_lets_in : Binds K d_law_lets_in ["_law_thing"] [] := F_law_lets_in.binds (ps := ["_law_thing"]) fun _ _ _ _ _ _ us hl => match us, hl with | [_], _ => rfl
  obtain ⟨f_law_may, d_law_may, a_law_may, F_law_may⟩ := X_law_may
  have g_law_may := PySem.W.mg_of X G a_law_may
  have b_law_may : Binds K d_law_may ["_law_made", "_law_thing", "_law_position"] [] := F_law_may.binds (ps := ["_law_made", "_law_thing", "_law_position"]) fun _ _ _ _ _ _ us hl => match us, hl with | [_, _, _], _ => rfl
  obtain ⟨f_law_positions, d_law_positions, a_law_positions, F_law_positions⟩ := X_law_positions
  have g_law_positions := PySem.W.mg_of X G a_law_positions
  have b_law_positions : Binds K d_law_positions ["_law_made"] [] := F_law_positions.binds (ps := ["_law_made"]) fun _ _ _ _ _ _ us hl => match us, hl with | [_], _ => rfl
  obtain ⟨f_law_stands_right, d_law_stands_right, a_law_stands_right, F_law_stands_right⟩ := X_law_stands_right
  have g_law_stands_right := PySem.W.mg_of X G a_law_stands_right
  have b_law_stands_right : Binds K d_law_stands_right ["_law_deck_here", "_law_world_here", "_law_made"] [] := F_law_stands_right.binds (ps := ["_law_deck_here", "_law_world_here", "_law_made"]) fun _ _ _ _ _ _ us hl => match us, hl with | [_, _, _], _ => rfl
  obtain ⟨f_law_open_right, d_law_open_right, a_law_open_right, F_law_open_right⟩ := X_law_open_right
  have g_law_open_right := PySem.W.mg_of X G a_law_open_right
  have b_law_open_right : Binds K d_law_open_right ["_law_deck_here", "_law_world_here", "_law_made"] [] := F_law_open_right.binds (ps := ["_law_deck_here", "_law_world_here", "_law_made"]) fun _ _ _ _ _ _ us hl => match us, hl with | [_, _, _], _ => rfl
  obtain ⟨f_law_writers_right, d_law_writers_right, a_law_writers_right, F_law_writers_right⟩ := X_law_writers_right
  have g_law_writers_right := PySem.W.mg_of X G a_law_writers_right
  have b_law_writers_right : Binds K d_law_writers_right ["_law_world_here", "_law_made"] [] := F_law_writers_right.binds (ps := ["_law_world_here", "_law_made"]) fun _ _ _ _ _ _ us hl => match us, hl with | [_, _], _ => rfl
  obtain ⟨f_law0, d_law0, a_law0, F_law0⟩ := X_law
  have e := hfa.symm.trans (PySem.W.mg_of X G a_law0)
  cases e
  have mlist := PySem.W.mg_none_of X G z_list
  have msum := PySem.W.mg_none_of X G z_sum
  have mlen := PySem.W.mg_none_of X G z_len
  have mrange := PySem.W.mg_none_of X G z_range
  have mint := PySem.W.mg_none_of X G z_int
  have mrepr := PySem.W.mg_none_of X G z_repr
  have mtuple := PySem.W.mg_none_of X G z_tuple
  have mdict := PySem.W.mg_none_of X G z_dict
  have mmin := PySem.W.mg_none_of X G z_min
  have mmax := PySem.W.mg_none_of X G z_max
  have misinstance := PySem.W.mg_none_of X G z_isinstance
  have mbool := PySem.W.mg_none_of X G z_bool
  have msorted := PySem.W.mg_none_of X G z_sorted
  have mall := PySem.W.mg_none_of X G z_all
  have mzip := PySem.W.mg_none_of X G z_zip
  have mset := PySem.W.mg_none_of X G z_set
  have mFIELDS := PySem.W.mg_of X G z_FIELDS
  have mALL := PySem.W.mg_of X G z_ALL
  obtain ⟨oc, od, kV, doc, pm, an, cdv, ct, osl, hfd, _, _⟩ := F_law0.ex
  refine ⟨d_law0, fun s v => ?_, fun base _ _ => ?_⟩
  · subst hfd
    exact .of_eq rfl
  · have Gdraw := ok_draw (P := P) (w := w) (mg := mg) (base := base) (k := 0) F_law_draw
    have Gpick := ok_pick (k := 1) F_law_pick Gdraw g_law_draw F_law_draw.kp b_law_draw mlen
    have Gnames := ok_names (k := 2) F_law_names (Gdraw.mono (by decide)) g_law_draw F_law_draw.kp b_law_draw Gpick g_law_pick F_law_pick.kp b_law_pick mrange mlen
    have Gworld := ok_world (k := 3) F_law_world (Gdraw.mono (by decide)) g_law_draw F_law_draw.kp b_law_draw Gnames g_law_names F_law_names.kp b_law_names
    have Gdeck := ok_deck (P := P) (w := w) (mg := mg) (base := base) (k := 0) F_law_deck mlist msum mlen
    have Gex := ok_exprs (k := 2) F_law_expression (Gdraw.mono (by decide)) g_law_draw F_law_draw.kp b_law_draw Gpick g_law_pick F_law_pick.kp b_law_pick g_law_expression F_law_expression.kp b_law_expression mint mmax 3
    have Gst := ok_stmt (k := 6) F_law_statement (Gdraw.mono (by decide)) g_law_draw F_law_draw.kp b_law_draw (Gpick.mono (by decide)) g_law_pick F_law_pick.kp b_law_pick Gex g_law_expression F_law_expression.kp b_law_expression
    have Gtr := ok_tran (k := 7) F_law_transaction (Gdraw.mono (by decide)) g_law_draw F_law_draw.kp b_law_draw Gst g_law_statement F_law_statement.kp b_law_statement mrange mint mtuple
    have Gspr := ok_spread (k := 2) F_law_spread (Gdraw.mono (by decide)) g_law_draw F_law_draw.kp b_law_draw Gpick g_law_pick F_law_pick.kp b_law_pick mlen mtuple
    have Gof := ok_contained_of (P := P) (w := w) (mg := mg) (base := base) (k := 0) Fcontained_of mFIELDS T_FIELDS mzip
    have Gcon := ok_contained (k := 1) Fcontained Gof gcontained_of Fcontained_of.kp bcontained_of mALL T_ALL
    have Gfree := ok_contained_free (k := 1) Fcontained_free Gof gcontained_of Fcontained_of.kp bcontained_of
    have Gone := ok_one_deeper (k := 2) Fone_deeper Gcon gcontained Fcontained.kp bcontained
    have Gall := ok_all_parts (k := 3) Fall_parts Gone gone_deeper Fone_deeper.kp bone_deeper
    have Gvars := ok_variables_of (k := 4) Fvariables_of Gall gall_parts Fall_parts.kp ball_parts msorted mtuple
    have Ghas := ok_has_free_key (k := 2) Fhas_free_key Gfree gcontained_free Fcontained_free.kp bcontained_free
    have Gclosed := ok_is_closed (k := 5) Fis_closed Gvars gvariables_of Fvariables_of.kp bvariables_of (Ghas.mono (by decide)) ghas_free_key Fhas_free_key.kp bhas_free_key
    have Gii := ok_is_integer (P := P) (w := w) (mg := mg) (base := base) (k := 0) Fis_integer misinstance mint mbool
    have Gcol := ok_column_of (P := P) (w := w) (mg := mg) (base := base) (k := 0) Fcolumn_of
    have Gwri := ok_writers (k := 1) Fwriters Gcol gcolumn_of Fcolumn_of.kp bcolumn_of mtuple
    have Gms := ok_may_stand (k := 6) Fmay_stand Gclosed gis_closed Fis_closed.kp bis_closed (Gii.mono (by decide)) gis_integer Fis_integer.kp bis_integer (Gall.mono (by decide)) gall_parts Fall_parts.kp ball_parts mall
    have Gwl := fun (zs : List Str) (hi : ("in" : Str) ∈ zs) (hm : ("+" : Str) ∈ zs) => ok_wl hi hm (k := 2) F_law_with_lets (Gdraw.mono (by decide)) g_law_draw F_law_draw.kp b_law_draw Gpick g_law_pick F_law_pick.kp b_law_pick g_law_with_lets F_law_with_lets.kp b_law_with_lets misinstance mtuple 6 (by decide)
    have Glm := fun (zs : List Str) (hi : ("in" : Str) ∈ zs) => ok_law_may (k := 6) F_law_may (ok_li (P := P) (w := w) (mg := mg) (base := base) hi (k := 0) F_law_lets_in g_law_lets_in F_law_lets_in.kp b_law_lets_in misinstance mtuple 6 (by decide)) g_law_lets_in F_law_lets_in.kp b_law_lets_in mdict
    have Gpos := ok_positions (P := P) (w := w) (mg := mg) (base := base) (k := 0) F_law_positions msorted mset
    have Gsr := ok_stands_right (k := 8) F_law_stands_right (Gdraw.mono (by decide)) g_law_draw F_law_draw.kp b_law_draw (Gex.mono (by decide)) g_law_expression F_law_expression.kp b_law_expression Gwl g_law_with_lets F_law_with_lets.kp b_law_with_lets (Gms.mono (by decide)) gmay_stand Fmay_stand.kp bmay_stand (fun zs hi => (Glm zs hi).mono (by decide)) g_law_may F_law_may.kp b_law_may (Gpos.mono (by decide)) g_law_positions F_law_positions.kp b_law_positions mrepr mrange
    have Gor := ok_open_right (k := 7) F_law_open_right (Gex.mono (by decide)) g_law_expression F_law_expression.kp b_law_expression Gms gmay_stand Fmay_stand.kp bmay_stand
    have Gwrr := ok_writers_right (k := 2) F_law_writers_right Gwri gwriters Fwriters.kp bwriters (Gpos.mono (by decide)) g_law_positions F_law_positions.kp b_law_positions mrepr mtuple mint
    exact ok_law (k := 9) F_law0 (Gdeck.mono (by decide)) g_law_deck F_law_deck.kp b_law_deck (Gdraw.mono (by decide)) g_law_draw F_law_draw.kp b_law_draw (Gworld.mono (by decide)) g_law_world F_law_world.kp b_law_world (Gtr.mono (by decide)) g_law_transaction F_law_transaction.kp b_law_transaction (Gspr.mono (by decide)) g_law_spread F_law_spread.kp b_law_spread Gsr g_law_stands_right F_law_stands_right.kp b_law_stands_right (Gwrr.mono (by decide)) g_law_writers_right F_law_writers_right.kp b_law_writers_right (Gor.mono (by decide)) g_law_open_right F_law_open_right.kp b_law_open_right mrange mmax mmin mlen
end L20
open PySem PySem.W PyProof.Rows
set_option maxHeartbeats 0 in
theorem PySem.Challenge.cw_lookdone_k20_where_expressions_may_stand_holds : PySem.Challenge.rw_lookdone_k20_where_expressions_may_stand.Holds := by
  w_on; o_law; k_head; (case hw => w_witness2)
  k_fill
  refine GR.walk_g (l := PySem.Challenge.rw_lookdone_k20_where_expressions_may_stand) (n := 63) (k := 10) (x := "_law_script") (sp := L20.sp_law) rfl (by decide) rfl ⟨rfl, by decide, by decide⟩ (fun w h Y => PySem.W.kIn_of Y) ?F (fun _ _ a ns hl _ hS => ⟨a, ns, rfl, hS, fun _ => rfl⟩)
  case F =>
    intro w mg fa h KX G hmg
    refine' L20.all_mk KX G hmg (L20.has_mk ?a_is_integer ?l_is_integer ?c_is_integer ?k_is_integer) (L20.has_mk ?a_contained ?l_contained ?c_contained ?k_contained) (L20.has_mk ?a_contained_free ?l_contained_free ?c_contained_free ?k_contained_free) (L20.has_mk ?a_contained_of ?l_contained_of ?c_contained_of ?k_contained_of) (L20.has_mk ?a_one_deeper ?l_one_deeper ?c_one_deeper ?k_one_deeper) (L20.has_mk ?a_all_parts ?l_all_parts ?c_all_parts ?k_all_parts) (L20.has_mk ?a_has_free_key ?l_has_free_key ?c_has_free_key ?k_has_free_key) (L20.has_mk ?a_is_closed ?l_is_closed ?c_is_closed ?k_is_closed) (L20.has_mk ?a_variables_of ?l_variables_of ?c_variables_of ?k_variables_of) (L20.has_mk ?a_may_stand ?l_may_stand ?c_may_stand ?k_may_stand) (L20.has_mk ?a_column_of ?l_column_of ?c_column_of ?k_column_of) (L20.has_mk ?a_writers ?l_writers ?c_writers ?k_writers) (L20.has_mk ?a_law_deck ?l_law_deck ?c_law_deck ?k_law_deck) (L20.has_mk ?a_law_draw ?l_law_draw ?c_law_draw ?k_law_draw) (L20.has_mk ?a_law_pick ?l_law_pick ?c_law_pick ?k_law_pick) (L20.has_mk ?a_law_names ?l_law_names ?c_law_names ?k_law_names) (L20.has_mk ?a_law_world ?l_law_world ?c_law_world ?k_law_world) (L20.has_mk ?a_law_expression ?l_law_expression ?c_law_expression ?k_law_expression) (L20.has_mk ?a_law_statement ?l_law_statement ?c_law_statement ?k_law_statement) (L20.has_mk ?a_law_transaction ?l_law_transaction ?c_law_transaction ?k_law_transaction) (L20.has_mk ?a_law_spread ?l_law_spread ?c_law_spread ?k_law_spread) (L20.has_mk ?a_law_with_lets ?l_law_with_lets ?c_law_with_lets ?k_law_with_lets) (L20.has_mk ?a_law_lets_in ?l_law_lets_in ?c_law_lets_in ?k_law_lets_in) (L20.has_mk ?a_law_may ?l_law_may ?c_law_may ?k_law_may) (L20.has_mk ?a_law_positions ?l_law_positions ?c_law_positions ?k_law_positions) (L20.has_mk ?a_law_stands_right ?l_law_stands_right ?c_law_stands_right ?k_law_stands_right) (L20.has_mk ?a_law_open_right ?l_law_open_right ?c_law_open_right ?k_law_open_right) (L20.has_mk ?a_law_writers_right ?l_law_writers_right ?c_law_writers_right ?k_law_writers_right) (L20.has_mk ?a_law ?l_law ?c_law ?k_law) ?z_list ?z_sum ?z_len ?z_range ?z_int ?z_repr ?z_tuple ?z_dict ?z_min ?z_max ?z_isinstance ?z_bool ?z_sorted ?z_all ?z_zip ?z_set ?z_FIELDS (L20.flds_mk ?l_F ?kl_F ?q_0 (L20.ktx_mk ?l_0 ?v_0 (by decide)) ?q_1 (L20.ktx_mk ?l_1 ?v_1 (by decide)) ?q_2 (L20.ktx_mk ?l_2 ?v_2 (by decide)) ?q_3 (L20.ktx_mk ?l_3 ?v_3 (by decide)) ?q_4 (L20.ktx_mk ?l_4 ?v_4 (by decide)) ?q_5 (L20.ktx_mk ?l_5 ?v_5 (by decide)) ?q_6 (L20.ktx_mk ?l_6 ?v_6 (by decide)) ?q_7 (L20.ktx_mk ?l_7 ?v_7 (by decide)) ?q_8 (L20.ktx_mk ?l_8 ?v_8 (by decide)) ?q_9 (L20.ktx_mk ?l_9 ?v_9 (by decide)) ?q_10 (L20.ktx_mk ?l_10 ?v_10 (by decide)) ?q_11 (L20.ktx_mk ?l_11 ?v_11 (by decide)) ?q_12 (L20.ktx_mk ?l_12 ?v_12 (by decide)) ?q_13 (L20.ktx_mk ?l_13 ?v_13 (by decide)) ?q_14 (L20.ktx_mk ?l_14 ?v_14 (by decide)) ?q_15 (L20.ktx_mk ?l_15 ?v_15 (by decide))) ?z_ALL (L20.ktx_mk (fs := ["free", "bound"]) ?l_A ?v_A (by decide))
    (case a_is_integer => k_is)
    (case l_is_integer => k_is)
    (case c_is_integer => k_is)
    (case k_is_integer => k_is)
    (case a_contained => k_is)
    (case l_contained => k_is)
    (case c_contained => k_is)
    (case k_contained => k_is)
    (case a_contained_free => k_is)
    (case l_contained_free => k_is)
    (case c_contained_free => k_is)
    (case k_contained_free => k_is)
    (case a_contained_of => k_is)
    (case l_contained_of => k_is)
    (case c_contained_of => k_is)
    (case k_contained_of => k_is)
    (case a_one_deeper => k_is)
    (case l_one_deeper => k_is)
    (case c_one_deeper => k_is)
    (case k_one_deeper => k_is)
    (case a_all_parts => k_is)
    (case l_all_parts => k_is)
    (case c_all_parts => k_is)
    (case k_all_parts => k_is)
    (case a_has_free_key => k_is)
    (case l_has_free_key => k_is)
    (case c_has_free_key => k_is)
    (case k_has_free_key => k_is)
    (case a_is_closed => k_is)
    (case l_is_closed => k_is)
    (case c_is_closed => k_is)
    (case k_is_closed => k_is)
    (case a_variables_of => k_is)
    (case l_variables_of => k_is)
    (case c_variables_of => k_is)
    (case k_variables_of => k_is)
    (case a_may_stand => k_is)
    (case l_may_stand => k_is)
    (case c_may_stand => k_is)
    (case k_may_stand => k_is)
    (case a_column_of => k_is)
    (case l_column_of => k_is)
    (case c_column_of => k_is)
    (case k_column_of => k_is)
    (case a_writers => k_is)
    (case l_writers => k_is)
    (case c_writers => k_is)
    (case k_writers => k_is)
    (case a_law_deck => k_is)
    (case l_law_deck => k_is)
    (case c_law_deck => k_is)
    (case k_law_deck => k_is)
    (case a_law_draw => k_is)
    (case l_law_draw => k_is)
    (case c_law_draw => k_is)
    (case k_law_draw => k_is)
    (case a_law_pick => k_is)
    (case l_law_pick => k_is)
    (case c_law_pick => k_is)
    (case k_law_pick => k_is)
    (case a_law_names => k_is)
    (case l_law_names => k_is)
    (case c_law_names => k_is)
    (case k_law_names => k_is)
    (case a_law_world => k_is)
    (case l_law_world => k_is)
    (case c_law_world => k_is)
    (case k_law_world => k_is)
    (case a_law_expression => k_is)
    (case l_law_expression => k_is)
    (case c_law_expression => k_is)
    (case k_law_expression => k_is)
    (case a_law_statement => k_is)
    (case l_law_statement => k_is)
    (case c_law_statement => k_is)
    (case k_law_statement => k_is)
    (case a_law_transaction => k_is)
    (case l_law_transaction => k_is)
    (case c_law_transaction => k_is)
    (case k_law_transaction => k_is)
    (case a_law_spread => k_is)
    (case l_law_spread => k_is)
    (case c_law_spread => k_is)
    (case k_law_spread => k_is)
    (case a_law_with_lets => k_is)
    (case l_law_with_lets => k_is)
    (case c_law_with_lets => k_is)
    (case k_law_with_lets => k_is)
    (case a_law_lets_in => k_is)
    (case l_law_lets_in => k_is)
    (case c_law_lets_in => k_is)
    (case k_law_lets_in => k_is)
    (case a_law_may => k_is)
    (case l_law_may => k_is)
    (case c_law_may => k_is)
    (case k_law_may => k_is)
    (case a_law_positions => k_is)
    (case l_law_positions => k_is)
    (case c_law_positions => k_is)
    (case k_law_positions => k_is)
    (case a_law_stands_right => k_is)
    (case l_law_stands_right => k_is)
    (case c_law_stands_right => k_is)
    (case k_law_stands_right => k_is)
    (case a_law_open_right => k_is)
    (case l_law_open_right => k_is)
    (case c_law_open_right => k_is)
    (case k_law_open_right => k_is)
    (case a_law_writers_right => k_is)
    (case l_law_writers_right => k_is)
    (case c_law_writers_right => k_is)
    (case k_law_writers_right => k_is)
    (case a_law => k_is)
    (case l_law => k_is)
    (case c_law => k_is)
    (case k_law => k_is)
    (case z_list => k_is)
    (case z_sum => k_is)
    (case z_len => k_is)
    (case z_range => k_is)
    (case z_int => k_is)
    (case z_repr => k_is)
    (case z_tuple => k_is)
    (case z_dict => k_is)
    (case z_min => k_is)
    (case z_max => k_is)
    (case z_isinstance => k_is)
    (case z_bool => k_is)
    (case z_sorted => k_is)
    (case z_all => k_is)
    (case z_zip => k_is)
    (case z_set => k_is)
    (case z_FIELDS => k_is)
    (case l_F => k_is)
    (case kl_F => k_keys)
    (case q_0 => k_is)
    (case l_0 => k_is)
    (case v_0 => repeat (first | exact .nil | refine .cons ⟨_, rfl⟩ ?_))
    (case q_1 => k_is)
    (case l_1 => k_is)
    (case v_1 => repeat (first | exact .nil | refine .cons ⟨_, rfl⟩ ?_))
    (case q_2 => k_is)
    (case l_2 => k_is)
    (case v_2 => repeat (first | exact .nil | refine .cons ⟨_, rfl⟩ ?_))
    (case q_3 => k_is)
    (case l_3 => k_is)
    (case v_3 => repeat (first | exact .nil | refine .cons ⟨_, rfl⟩ ?_))
    (case q_4 => k_is)
    (case l_4 => k_is)
    (case v_4 => repeat (first | exact .nil | refine .cons ⟨_, rfl⟩ ?_))
    (case q_5 => k_is)
    (case l_5 => k_is)
    (case v_5 => repeat (first | exact .nil | refine .cons ⟨_, rfl⟩ ?_))
    (case q_6 => k_is)
    (case l_6 => k_is)
    (case v_6 => repeat (first | exact .nil | refine .cons ⟨_, rfl⟩ ?_))
    (case q_7 => k_is)
    (case l_7 => k_is)
    (case v_7 => repeat (first | exact .nil | refine .cons ⟨_, rfl⟩ ?_))
    (case q_8 => k_is)
    (case l_8 => k_is)
    (case v_8 => repeat (first | exact .nil | refine .cons ⟨_, rfl⟩ ?_))
    (case q_9 => k_is)
    (case l_9 => k_is)
    (case v_9 => repeat (first | exact .nil | refine .cons ⟨_, rfl⟩ ?_))
    (case q_10 => k_is)
    (case l_10 => k_is)
    (case v_10 => repeat (first | exact .nil | refine .cons ⟨_, rfl⟩ ?_))
    (case q_11 => k_is)
    (case l_11 => k_is)
    (case v_11 => repeat (first | exact .nil | refine .cons ⟨_, rfl⟩ ?_))
    (case q_12 => k_is)
    (case l_12 => k_is)
    (case v_12 => repeat (first | exact .nil | refine .cons ⟨_, rfl⟩ ?_))
    (case q_13 => k_is)
    (case l_13 => k_is)
    (case v_13 => repeat (first | exact .nil | refine .cons ⟨_, rfl⟩ ?_))
    (case q_14 => k_is)
    (case l_14 => k_is)
    (case v_14 => repeat (first | exact .nil | refine .cons ⟨_, rfl⟩ ?_))
    (case q_15 => k_is)
    (case l_15 => k_is)
    (case v_15 => repeat (first | exact .nil | refine .cons ⟨_, rfl⟩ ?_))
    (case z_ALL => k_is)
    (case l_A => k_is)
    (case v_A => repeat (first | exact .nil | refine .cons ⟨_, rfl⟩ ?_))
