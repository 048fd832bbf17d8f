import PyProof.Rows.All
import Wide.All
import OpenK.AllK
import Wide.FinOn
import HandS.ForMost
import PyProof.ReprRoads
import HandS.Wide
import HandS.Style
import HandS.Evl
import HandS.Conv
import HandS.Replace
import PyProof.AutoSeq1
import HandS.Star
import HandS.SortKw
import KE.DatumOrd
import KE.KDictPairs
import HandS.Zip
import HandS.More
import HandS.Walk
import HandS.Set
import HandS.SetBool
import HandS.SetKeys
import PyProof.Rows.SortStr
import HandS.Strs
import HandS.Flow
import HandS.Nested
import HandS.NestedK
import PyProof.DelItemList
import HandS.Dict
import HandS.DictComp
import HandS.Iter
import HandS.TupLe
import HandS.Small
import HandS.EndTab
import KE.KNestM
import PySem.Challenge.RW_lookdone_k19_expressions_of_slots
set_option Elab.async false
set_option linter.all false
set_option maxRecDepth 100000
set_option maxHeartbeats 4000000
namespace GR
open PySem PySem.Spec PyProof.Rows L2

/-! ### data that stands in the abstract heap -/
section
variable {X : Cx} {pins : List (Addr × Obj)} {σ : L2.St} {H : Hp} {s : Shared}
mutual
theorem nodict {K : PySem.W.Frag} : ∀ {v : V} {d : PyData}, Dp K H v d → d.hasDict = false
  | _, _, .non => by simp only [PyData.hasDict]
  | _, _, .bl b => by simp only [PyData.hasDict]
  | _, _, .int i => by simp only [PyData.hasDict]
  | _, _, .str x => by simp only [PyData.hasDict]
  | _, _, .lst _ q => by simp only [PyData.hasDict, nodicts q]
  | _, _, .tup _ q => by simp only [PyData.hasDict, nodicts q]
theorem nodicts {K : PySem.W.Frag} : ∀ {vs : List V} {ds : List PyData}, DpAll K H vs ds → PyData.hasDictAll ds = false
  | _, _, .nil => by simp only [PyData.hasDictAll]
  | _, _, .cons h q => by simp only [PyData.hasDictAll, nodict h, nodicts q, Bool.or_self]
end

/-- repr of a list or a tuple of data -/
def rRepr (X : Cx) : List V → Hp → VK → Prop := fun xs H Q => ∃ (a : Addr) (d : PyData), xs = [.ref a] ∧ Dp X.K H (.ref a) d ∧ d.showable = true ∧ d.depth ≤ 60 ∧ d.shown.length ≤ sizeLine ∧ Q (.str d.shown) H
theorem call_reprD {k : Nat} (hg : X.A.guards = some []) (hr : Room k X.A) : CallR X (.builtin "repr") (rRepr X) := by
  intro pins s σ H xs us Q I r h
  obtain ⟨a, d, rfl, hd, hs, hdep, hz, q⟩ := h
  obtain ⟨u, rfl, rv⟩ := vals1 r
  obtain rfl : u = Value.ref a := rv
  obtain ⟨as, hR⟩ := Dp.reads I d _ _ hd rfl
  have hu := hr.units
  exact repr_of_reads' hR hs (PyData.noDict_hsm (nodict hd)) hg (by omega) (fun _ _ e => e) (fun h' u tk hk => ⟨.str d.shown, H, I.kept hk, ⟨_, rfl⟩, q⟩) hz
end

/-! ### defs that show things: a promise kept wherever nothing is being shown -/
structure FnG (P : Program) (w : World) (K : PySem.W.Frag) (mg : Str → Option Value) (base : Heap) (CX : CXT) (k : Nat) (f : Addr) (fd : FuncData) (ps : List Str) (sp : Sp) : Prop where
  size : ∀ vs H Q E, sp vs H Q E → vs.length = ps.length
  go : ∀ (A : Around) (outer : List Env) (s : Shared) (H : Hp) (args : Args) (us : List Value) (vs : List V) (Q : VK) (E : XK),
    A.guards = some [] → Room k A → Env0 P w K mg base A outer s H → BindsTo s fd args (ps.zip us) → Vals vs us → sp vs H Q E →
    codeAny (model P w) A (.call (.ref f) args) (CR CX outer P w H s Q E) s

section
variable {P : Program} {w : World} {K : PySem.W.Frag} {mg : Str → Option Value} {base : Heap}
theorem FnG.of {CX : CXT} {k : Nat} {f : Addr} {fd : FuncData} {ps : List Str} {sp : Sp} (F : FnOk P w K mg base CX k f fd ps sp) : FnG P w K mg base CX k f fd ps sp :=
  ⟨F.len, fun A outer s H args us vs Q E _ => F.run A outer s H args us vs Q E⟩

/-- a def by its body, where nothing is being shown -/
theorem ok_g {x qual : Str} {st : Stmt} {f : Addr} {fd : FuncData} {N ps : List Str} {k : Nat} {sp : Sp} (F : Fun K x qual st f fd) (S : FnScope N ps (defScope st)) (size : ∀ vs H Q E, sp vs H Q E → vs.length = ps.length)
    (body : ∀ (cdv : Value) (A : Around) (outer : List Env) (s : Shared) (H : Hp) (vs : List V) (Q : VK) (E : XK), A.guards = some [] → Room k (A.deeper (envOfC qual (defScope st) s.heap.objs.size f cdv)) → sp vs H Q E →
      ∃ t, PSs (cxOf CX0 P w K mg base N qual (defScope st) f cdv A outer s H E).nox (defBody st) t ∧ t { nx := fun _ H' => Q .non H', rt := Q } (start N vs) H) : FnG P w K mg base CX0 (k + 1) f fd ps sp := by
  obtain ⟨oc, od, kV, doc, pm, an, cdv, ct, osl, rfl, lk, hcd⟩ := F.ex
  constructor
  · exact size
  intro A outer s H args us vs Q E gA room e0 bnd rel hsp
  have inK : K.In s.heap := e0.mod.kin.keeps (fun b o q => (e0.bs b o q).1)
  have nolim := e0.mod.nolimit.keeps (fun b o q => (e0.bs b o q).1)
  obtain ⟨t, ht, hq⟩ := body cdv A outer s H vs Q E gA (room.deeper _) hsp
  refine codeAny_call_function room.depth (inK f _ lk) rfl S.co S.gen rfl (PySem.W.codeRec_of inK hcd) (bnd _ _ _ _ ?_)
  refine wpAny_newFunctionEnv_cells S.kind ?par (fun env he s1 inC => ?run)
  case par =>
    rintro ⟨n, v⟩ hy
    rcases S.par n (List.of_mem_zip hy).1 with q | q
    · exact Or.inl q
    · exact Or.inr ⟨q, PySem.W.cellsFrom_some _ _ _ (Or.inl q)⟩
  case run =>
    cases he
    refine And.intro (nolim.keeps inC.toInCall.keep) (codeAny_func ?_)
    have I0 := inv_start (CX := CX0) (P := P) (w := w) (K := K) (mg := mg) (base := base) (E := E) S room.hd e0 (size _ _ _ _ hsp) rel inC
    refine wpAny_mono (ht.nox.run [] s1 (start N vs) H _ I0 hq) ?_ (fun _ _ z => z)
    rintro fl s' hs
    have close : ∀ (σ' : L2.St) (H' : Hp) (v : V) (u : Value), Inv (cxOf CX0 P w K mg base N qual (defScope st) f cdv A outer s H E) [] σ' H' s' → RelV v u → Q v H' → CE outer P w H s Q u s' := by
      intro σ' H' v u J rv q
      exact ⟨v, H', J.os, J.bare, J.base, J.hok, rv, q⟩
    cases fl
    case ret u => obtain ⟨v, σ', H', J, rv, q⟩ := hs; exact close _ _ _ _ J rv q
    case next => obtain ⟨σ', H', J, q⟩ := hs; exact close _ _ V.non Value.none J rfl q
    case brk => obtain ⟨_, _, _, q⟩ := hs; exact q.elim
    case cont => obtain ⟨_, _, _, q⟩ := hs; exact q.elim
end

section
variable {X : Cx} {CX : CXT} {k : Nat} {f : Addr} {fd : FuncData} {ps : List Str} {sp : Sp} {E : XK} {x : Str} {p pos : Pos} {e : Expr} {es : List Expr} {t : TA}
/-- its call -/
theorem pe_callG (F : FnG X.prog X.w X.K X.mg X.base CX k f fd ps sp) (hg : X.A.guards = some []) (hr : Room k X.A) (gx : Gl X x) (hm : X.mg x = some (.ref f)) (hk : PySem.W.keepIn X.K (.ref f) = true) (hb : Binds X.K fd ps []) (hx : Passes CX X E)
    (ha : PA X (e :: es) t) (hdb : (x == ("__debug__" : Str)) = false := by decide) (he : starEach (e :: es) X.env = (false, eval e X.env) :: starEach es X.env := by rfl) (hpl : (backTo pos (starEach es X.env)).any (·.1) = false := by rfl) :
    PE X (.Call (.Name x p) (e :: es) [] pos) (tCall sp [] E t) := by
  constructor
  intro pins s σ H Q I h
  refine wpAny_Call_Name_kw (ld_glob I gx hm (PySem.W.callWith_K (h₀ := X.base) I.ok.mod.kin hk (thn (ha.run pos pins s σ H _ I h) ?_) he hpl) hdb)
  rintro us s1 ⟨vs, H1, I1, r, q⟩
  refine ⟨I1.kIn, ?_⟩
  have q' : sp vs H1 Q E := by simpa using q
  have hl : us.length = ps.length := by
    rw [← r.length]
    exact F.size _ _ _ _ q'
  have hB := hb s1 us I1.kIn (by simpa using hl)
  rw [List.append_nil] at hB
  refine wpAny_call (codeAny_mono (F.go X.A X.stack s1 H1 ⟨us, []⟩ us vs Q E hg hr I1.env0 hB r q') ?_)
  rintro (er | fl) s2 hq
  · exact hx pins σ H1 s1 er s2 I1 hq
  · cases fl
    case ret u => exact I1.after hq
    case next => exact hq.elim
    case brk => exact hq.elim
    case cont => exact hq.elim
end

/-- a comprehension without a test -/
theorem yes_then {σ : L2.St} {H : Hp} {A B : Hp → Prop} (h : A H) : tYes σ H (fun b H3 => if b = true then A H3 else B H3) := by
  show (if true = true then A H else B H)
  rw [if_pos rfl]
  exact h

/-! ### the law's own call -/
/-- the abstract heap in which the script alone is tracked, as it stands -/
def scriptHp (a : Addr) (o : Obj) (xs : List V) : Hp := fun b => if b = a then some (.frz o (.lst xs)) else none
theorem scriptHp_at {a : Addr} {o : Obj} {xs : List V} : scriptHp a o xs a = some (.frz o (.lst xs)) := if_pos rfl
theorem scriptHp_some {a b : Addr} {o : Obj} {xs : List V} {u : HO} (h : scriptHp a o xs b = some u) : b = a ∧ u = .frz o (.lst xs) := by
  unfold scriptHp at h
  split at h
  · rename_i e
    exact ⟨e, (Option.some.inj h).symm⟩
  · cases h

theorem ns_hid {h : Heap} {H : Hp} {b : Addr} {m : Str → Option Value} (q : h.Ns b m) (hb : H b = none) : (hidT h H).Ns b m := by
  obtain ⟨o, es, ep, e, r⟩ := q
  exact ⟨o, es, ep, hidT_get e hb, r⟩

theorem law_callG {P : Program} {w : World} {K : PySem.W.Frag} {mg mb : Str → Option Value} {k : Nat} {fa a : Addr} {fd : FuncData} {x : Str} {sp : Sp} {s₁ : Shared} {vs : List Value} {ns : List Int}
    (KX : K.In s₁.heap) (hns : s₁.heap.Ns mainGlobals mg) (hb : s₁.heap.Ns builtinsNs mb) (hbb : ∀ x : Str, x ≠ "__name__" → mb x = bootBuiltins x) (hlim : s₁.heap.NoLimit) (hg : s₁.gens = #[])
    (ha : s₁.heap.get? a = some { cls := .type "list", data := .seq vs.toArray }) (hi : IntsAre vs ns) (hl : ns.length ≤ sizeLine) (hr : Room k callerA)
    (F : ∀ base : Heap, K.In base → base.Ns mainGlobals mg → FnG P w K mg base CX0 k fa fd [x] sp) (hbind : ∀ (s : Shared) (u : Value), BindsTo s fd ⟨[u], []⟩ [(x, u)])
    (hsp : ∀ H : Hp, Only H → SqL K H a (ns.map V.int) → sp [.ref a] H (fun v _ => v = .bl true) fun _ _ _ => False) :
    codeAny (model P w) callerA (.call (.ref fa) ⟨[.ref a], []⟩) (fun r s' => r = .ok (.ret (.bool true)) ∧ OldK s₁.heap s'.heap ∧ s'.os = s₁.os ∧ AllBare s'.gens) s₁ := by
  have main : ∀ H : Hp, Only H → SqL K H a (ns.map V.int) → HOk P w H s₁.heap → (∀ b u, H b = some u → b = a ∧ K.lookup a = none) →
      codeAny (model P w) callerA (.call (.ref fa) ⟨[.ref a], []⟩) (fun r s' => r = .ok (.ret (.bool true)) ∧ OldK s₁.heap s'.heap ∧ s'.os = s₁.os ∧ AllBare s'.gens) s₁ := by
    intro H only seq ok one
    have free : ∀ b, (∀ o n, s₁.heap.get? b = some o → o.data ≠ .seq vs.toArray n) → H b = none := by
      intro b nb
      cases q : H b with
      | none => rfl
      | some u =>
        obtain ⟨rfl, _⟩ := one b u q
        exact absurd rfl (nb _ _ ha)
    have freeD : ∀ {b : Addr} {m : Str → Option Value}, s₁.heap.Ns b m → H b = none := by
      rintro b m ⟨o, es, ep, e, d, _⟩
      refine free b fun o' n e' d' => ?_
      rw [e] at e'
      cases e'
      rw [d] at d'
      cases d'
    have inB : K.In (hidT s₁.heap H) := by
      intro b o e
      refine hidT_get (KX b o e) ?_
      cases q : H b with
      | none => rfl
      | some u =>
        obtain ⟨rfl, z⟩ := one b u q
        rw [z] at e
        cases e
    have gB := ns_hid hns (freeD hns)
    have md : Mod K mg (hidT s₁.heap H) := by
      refine ⟨inB, gB, ⟨mb, ns_hid hb (freeD hb), hbb⟩, ?_⟩
      obtain ⟨mc, h1, h2⟩ := hlim
      exact ⟨mc, ns_hid h1 (freeD h1), h2⟩
    have start0 : Env0 P w K mg (hidT s₁.heap H) callerA [] s₁ H := by
      constructor
      · rfl
      · exact md
      · exact fun b o e => of_hidT e
      · exact Nat.le_of_eq (hidT_size _ _)
      · trivial
      · intro b hb
        exact absurd (show b ∈ ([] : List Addr) from hb) (by simp)
      · exact ok
      · exact .of_eq hg
    have run := (F _ inB gB).go callerA [] s₁ H ⟨[.ref a], []⟩ [.ref a] [.ref a] (fun v _ => v = .bl true) (fun _ _ _ => False) rfl hr start0 (hbind s₁ (.ref a)) (.cons rfl .nil) (hsp H only seq)
    refine codeAny_mono run ?_
    rintro (er | fl) s' h
    · exact False.elim h
    cases fl with
    | next => exact False.elim h
    | brk => exact False.elim h
    | cont => exact False.elim h
    | ret u =>
      obtain ⟨v, H', os, bare, un, ok', rv, q⟩ := h
      cases (show v = .bl true from q)
      cases (show u = Value.bool true from rv)
      refine ⟨rfl, OldK.of_keep ?_, os, bare⟩
      intro b o e
      cases z : H b with
      | none => exact un.keep b o e z (fun m => absurd (show b ∈ ([] : List Addr) from m) (by simp)) (by simp)
      | some u =>
        rcases only b with z' | ⟨ob, xs, z'⟩
        · rw [z] at z'
          cases z'
        · have e1 := (ok b _ z').1
          have e2 := (ok' b _ (un.frzs b ob _ z')).1
          rw [e] at e1
          rw [e1]
          exact e2
  have rv := vals_ints hi
  cases hk : K.lookup a with
  | some o =>
    have e := KX a o hk
    rw [ha] at e
    cases e
    refine main (fun _ => none) (fun _ => .inl rfl) (.inr ⟨_, vs.toArray, _, hk, rfl, rfl, rfl, ?_, by simpa using rv⟩) ?_ ?_
    · rw [List.size_toArray, hi.length]
      exact hl
    · intro b u z
      cases z
    · intro b u z
      cases z
  | none =>
    refine main (scriptHp a { cls := .type "list", data := .seq vs.toArray } (ns.map V.int)) ?_ (.inl (.inr ⟨_, scriptHp_at⟩)) ?_ ?_
    · intro b
      cases z : scriptHp a { cls := .type "list", data := .seq vs.toArray } (ns.map V.int) b with
      | none => exact .inl rfl
      | some u => exact .inr ⟨_, _, by rw [(scriptHp_some z).2]⟩
    · intro b u z
      obtain ⟨rfl, rfl⟩ := scriptHp_some z
      refine ⟨ha, ?_, vs, _, rv, ha⟩
      rw [List.length_map]
      exact hl
    · intro b u z
      exact ⟨(scriptHp_some z).1, hk⟩

theorem walk_g {l : PySem.W.OpenLaw} {n k : Nat} {q : Program} {loose : List Str} {XP : (Str → Option Value) → Heap → Prop} {YP : World → Heap → Prop} {d : DefRec} {K : Params → PySem.W.Frag} {sp : PySem.W.Frag → Sp} {x : Str}
    (hn : l.most = some n) (hn2 : n ≤ sizeLine) (hdf : d.params.defaults = []) (hr : Room k callerA)
    (hY : ∀ (w : World) (h : Heap), YP w h → (K w.params).In h)
    (F : ∀ (w : World) (mg : Str → Option Value) (fa : Addr) (h : Heap), (K w.params).In h → h.Ns mainGlobals mg → mg d.name = some (.ref fa) →
      ∃ fd : FuncData, (∀ (s : Shared) (u : Value), BindsTo s fd ⟨[u], []⟩ [(x, u)]) ∧
        ∀ base : Heap, (K w.params).In base → base.Ns mainGlobals mg → FnG l.prog w (K w.params) mg base CX0 k fa fd [x] (sp (K w.params)))
    (hsp : ∀ (K : PySem.W.Frag) (H : Hp) (a : Addr) (ns : List Int), ns.length ≤ n → Only H → SqL K H a (ns.map V.int) → sp K [.ref a] H (fun v _ => v = .bl true) fun _ _ _ => False) :
    PySem.W.WalkO q loose XP YP l.row.toRowW d [] (fun f vs => PySem.call f vs) := by
  apply Att.attach_call hn hdf
  intro w s₀ s₁ mg mb fa o pm cd doc a vs ns G Y ho hd hcd hmg hobj hints hlen hg
  obtain ⟨fd, bnd, keeps⟩ := F w mg fa _ (hY w _ Y) G.T.g hmg
  exact law_callG (hY w _ Y) G.T.g G.T.b G.T.builtins G.T.nolimit hg hobj hints (Nat.le_trans hlen hn2) hr keeps bnd (fun H => hsp _ H a ns hlen)
end GR

namespace L19
open PySem PySem.Spec PyProof.Rows L2 GR
abbrev LIM : Int := 1000000000000000000
def topS (i : Nat) : Stmt := PySem.Challenge.pw_lookdone_k19_expressions_of_slots.main.body.getD i (.Pass ⟨0, 0, 0, 0⟩)
theorem same_upd {H : Hp} {p : Addr} {o : HO} (h : H p = none) : Same H (upd H p o) := fun b x e => by
  rw [upd_ne (ne_of_none e h)]
  exact e
theorem le2 : 2 ≤ sizeLine := by decide
theorem at0 {xs : List V} {v : V} : atI (v :: xs) 0 = some v := atI_nat (j := 0) rfl
theorem at1 {xs : List V} {v u : V} : atI (u :: v :: xs) 1 = some v := atI_nat (j := 1) rfl
theorem at2 {xs : List V} {v u t : V} : atI (t :: u :: v :: xs) 2 = some v := atI_nat (j := 2) rfl
theorem at3 {xs : List V} {v u t s : V} : atI (s :: t :: u :: v :: xs) 3 = some v := atI_nat (j := 3) rfl
/-! ### the law's deck -/
/-- the deck at d: the cells at c, a number, the count of draws, at most N -/
def Deck (H : Hp) (d c : Addr) (N : Int) : Prop := ∃ (cells : List Int) (m n : Int), H d = some (.lst [.ref c, .int m, .int n]) ∧ H c = some (.lst (cells.map V.int)) ∧ cells.length ≤ 63 ∧ 0 ≤ n ∧ n ≤ N
theorem Deck.ne {H : Hp} {d c : Addr} {N : Int} (h : Deck H d c N) : c ≠ d := by
  obtain ⟨cells, m, n, h1, h2, _⟩ := h
  rintro rfl
  rw [h1] at h2
  have e := HO.lst.inj (Option.some.inj h2)
  cases cells with
  | nil => cases e
  | cons x r =>
    have := (List.cons.inj e).1
    cases this
theorem Deck.mono {H : Hp} {d c : Addr} {N M : Int} (h : Deck H d c N) (hm : N ≤ M) : Deck H d c M := by
  obtain ⟨cells, m, n, h1, h2, h3, h4, h5⟩ := h
  exact ⟨cells, m, n, h1, h2, h3, h4, Int.le_trans h5 hm⟩
/-- all but the deck is as it was -/
def Keep (d c : Addr) (H H' : Hp) : Prop := ∀ b o, b ≠ d → b ≠ c → H b = some o → H' b = some o
theorem Keep.refl {d c : Addr} {H : Hp} : Keep d c H H := fun _ _ _ _ e => e
theorem Keep.trans {d c : Addr} {H H1 H2 : Hp} (a : Keep d c H H1) (b : Keep d c H1 H2) : Keep d c H H2 := fun x o h1 h2 e => b x o h1 h2 (a x o h1 h2 e)
theorem Keep.of {d c : Addr} {H H' : Hp} (s : Same H H') : Keep d c H H' := fun b o _ _ e => s b o e
theorem Deck.same {H H' : Hp} {d c : Addr} {N : Int} (h : Deck H d c N) (s : Same H H') : Deck H' d c N := by
  obtain ⟨cells, m, n, h1, h2, h3⟩ := h
  exact ⟨cells, m, n, s _ _ h1, s _ _ h2, h3⟩
/-- a tuple, a list that is not the deck's stays -/
theorem Keep.tup {d c p : Addr} {H H' : Hp} {N : Int} {xs : List V} (s : Keep d c H H') (D : Deck H d c N) (h : H p = some (.tup xs)) : H' p = some (.tup xs) := by
  obtain ⟨cells, m, n, h1, h2, _⟩ := D
  exact s p _ (ne_of h h1 (fun z => by cases z)) (ne_of h h2 (fun z => by cases z)) h
theorem dp_ints {K : PySem.W.Frag} {H : Hp} : ∀ ns : List Int, DpAll K H (ns.map V.int) (ns.map PyData.int)
  | [] => .nil
  | n :: ns => .cons (.int n) (dp_ints ns)
theorem lay_ints : ∀ ns : List Int, PyData.canLayAll0 (ns.map PyData.int) = true
  | [] => by simp only [List.map_nil, PyData.canLayAll0]
  | n :: ns => by simp only [List.map_cons, PyData.canLayAll0, PyData.canLay0, lay_ints ns, Bool.and_self]
theorem depth_ints : ∀ ns : List Int, PyData.depthAll (ns.map PyData.int) ≤ 1
  | [] => by simp only [List.map_nil, PyData.depthAll]; omega
  | n :: ns => by
    have := depth_ints ns
    simp only [List.map_cons, PyData.depthAll, PyData.depth]
    omega
theorem shaped_ints (ns : List Int) : SeqAt.shaped (.list (ns.map PyData.int)) = true := by
  have := depth_ints ns
  unfold SeqAt.shaped
  rw [Bool.and_eq_true]
  refine ⟨by simp only [PyData.canLay0, lay_ints], decide_eq_true ?_⟩
  simp only [PyData.depth]
  omega
theorem neq_nil : ∀ ns : List Int, (!PyData.eqv (.list (ns.map PyData.int)) (.list [])) = !ns.isEmpty
  | [] => by simp only [List.map_nil, PyData.eqv, PyData.eqvAll, List.isEmpty_nil]
  | n :: ns => by simp only [List.map_cons, PyData.eqv, PyData.eqvAll, List.isEmpty_cons]

def num1 (z n : Int) : Int := (z % 2147483629 + 7919 * (n + 1) * (n + 1) + 31) * 48271 % 2147483647
theorem num1_rng (z n : Int) : -(2 ^ 64) < num1 z n ∧ num1 z n < 2 ^ 64 := by
  unfold num1
  omega
def num2 (x n : Int) : Int := (x * x + 69621 * x + (n + 1)) % 2147483587
theorem num2_rng (x n : Int) : -(2 ^ 64) < num2 x n ∧ num2 x n < 2 ^ 64 := by
  unfold num2
  omega

section
variable {P : Program} {w : World} {K : PySem.W.Frag} {mg : Str → Option Value} {base : Heap}
abbrev s_law_draw : Stmt := topS 26
theorem sc_law_draw : FnScope ["_law_deck_here", "_law_most", "_law_cell", "_law_number"] ["_law_deck_here", "_law_most"] (defScope s_law_draw) := ⟨rfl, rfl, rfl, by decide +kernel, rfl, by decide +kernel, by decide +kernel⟩
def sp_draw : Sp := fun vs H Q _ => ∃ (d c : Addr) (N most : Int), vs = [.ref d, .int most] ∧ Deck H d c N ∧ N < 2 ^ 60 ∧ 0 < most ∧ most < 2 ^ 100 ∧
  ∀ H' r, Keep d c H H' → Deck H' d c (N + 1) → 0 ≤ r → r < most → Q (.int r) H'
theorem ok_draw {f : Addr} {fd : FuncData} {k : Nat} (F : Fun K "_law_draw" "_law_draw" s_law_draw f fd) :
    FnOk P w K mg base CX0 (k + 1) f fd ["_law_deck_here", "_law_most"] sp_draw := by
  have nd := sc_law_draw.nd
  refine F.ok sc_law_draw (fun vs H Q E h => ?_) (fun cdv A outer s H vs Q E hr h => ?_)
  · obtain ⟨d, c, N, most, rfl, _⟩ := h
    rfl
  obtain ⟨d, c, N, most, rfl, D, hN, hm0, hm1, q⟩ := h
  have hcd := D.ne
  obtain ⟨cells, m, n, hd, hc, hlen, hn0, hn1⟩ := D
  refine ⟨_, (pss_cons (ps_asg (pe_op op_add (pe_ix ix_list (pv 0) pe_int (fun _ _ => rfl)) pe_int) (pg_sub (pv 0) pe_int set_list))
      (pss_cons (ps_set (i := 2) nd rfl (.inl rfl) (pe_ix ix_list (pv 0) pe_int (fun _ _ => rfl)))
      (Evl.pss_cut (ps_if (pt_cmpR (op_neD hr.units) (pe_ix ix_list (pv 0) pe_int (fun _ _ => rfl)) (pe_lst pa_nil) (nomark _))
      (pss_cons (ps_set (i := 2) nd rfl (.inl rfl) (pe_bm0 PySem.F.plainAttrs_list PySem.F.slot_list_pop PySem.F.type_list_pop mt_pop (pe_ix ix_list (pv 0) pe_int (fun _ _ => rfl))))
        (pss_one (ps_if (pt_cmpR op_ge (pv 2) (pe_op op_pow pe_int pe_int) (nomark _))
        (pss_cons (ps_expr (pe_bm PySem.F.plainAttrs_list PySem.F.slot_list_append PySem.F.type_list_append mt_append (pe_ix ix_list (pv 0) pe_int (fun _ _ => rfl)) (pa_cons (pe_op op_fdivW (pv 2) (pv 1)) pa_nil)))
          (pss_one (ps_ret (pe_op op_mod (pv 2) (pv 1)))))
        pss_nil)))
      pss_nil)
      (pss_cons (ps_set (i := 3) nd rfl (.inl rfl) (pe_op op_mod (pe_op op_mul (pe_op op_add (pe_op op_add (pe_op op_mod (pv 2) pe_int) (pe_op op_mul (pe_op op_mul pe_int (pe_ix ix_list (pv 0) pe_int (fun _ _ => rfl))) (pe_ix ix_list (pv 0) pe_int (fun _ _ => rfl)))) pe_int) pe_int) pe_int))
      (pss_cons (ps_set (i := 3) nd rfl (.inl rfl) (pe_op op_mod (pe_op op_add (pe_op op_add (pe_op op_mul (pv 3) (pv 3)) (pe_op op_mul pe_int (pv 3))) (pe_ix ix_list (pv 0) pe_int (fun _ _ => rfl))) pe_int))
      (pss_one (ps_ret (pe_op op_mod (pe_op op_fdivW (pe_op op_mod (pe_op op_mul (pv 3) (pe_op op_add (pe_op op_fdivW (pv 3) pe_int) pe_int)) pe_int) pe_int) (pv 1))))))))), ?_⟩
  refine ⟨.ref d, rfl, d, _, 2, _, rfl, rfl, .inl (.inl hd), at2, _, _, rfl, rfl, .ref d, rfl, d, _, 2, 2, rfl, rfl, hd, rfl, ?_⟩
  -- the deck with one draw more
  have h1d : upd H d (.lst [.ref c, .int m, .int (n + 1)]) d = some (.lst [.ref c, .int m, .int (n + 1)]) := upd_same
  have h1c : upd H d (.lst [.ref c, .int m, .int (n + 1)]) c = some (.lst (cells.map V.int)) := by
    rw [upd_ne hcd]
    exact hc
  have k1 : Keep d c H (upd H d (.lst [.ref c, .int m, .int (n + 1)])) := fun b o nb _ e => by
    rw [upd_ne nb]
    exact e
  refine ⟨.ref d, rfl, d, _, 1, _, rfl, rfl, .inl (.inl h1d), at1, ?_⟩
  have wd : CDivW 0 most := wide_div hm0 (b := 100) (by omega) (by decide) (by decide)
  refine ⟨fun σ' H' => ∃ (z : Int) (cells' : List Int), σ' = [some (.ref d), some (.int most), some (.int z), none] ∧ Keep d c H H' ∧ H' d = some (.lst [.ref c, .int m, .int (n + 1)]) ∧ H' c = some (.lst (cells'.map V.int)) ∧ cells'.length ≤ 63, ?_, ?_⟩
  · refine ⟨.ref d, rfl, d, _, 0, _, rfl, rfl, .inl (.inl h1d), at0, Nat.zero_le _, fun e ne => ?_⟩
    have s2 : Same (upd H d (.lst [.ref c, .int m, .int (n + 1)])) (upd (upd H d (.lst [.ref c, .int m, .int (n + 1)])) e (.lst [])) := same_upd ne
    have h2d := s2 _ _ h1d
    have h2c := s2 _ _ h1c
    have k2 := k1.trans (Keep.of s2)
    refine ⟨_, _, .lst (.inl (.inl h2c)) (dp_ints cells), .lst (.inl (.inl upd_same)) .nil, shaped_ints cells, shaped_ints [], _, rfl, ?_⟩
    rw [neq_nil]
    cases hcs : cells with
    | nil => exact iteF ⟨m, cells, rfl, k2, h2d, h2c, hlen⟩
    | cons x0 r0 =>
      refine iteT ?_
      have hne : cells ≠ [] := by
        rw [hcs]
        exact List.cons_ne_nil _ _
      have hlast : (cells.map V.int)[(cells.map V.int).length - 1]? = some (.int (cells.getLast hne)) := by
        rw [List.length_map, List.getElem?_map, ← List.getLast?_eq_getElem?, List.getLast?_eq_getLast hne]
        rfl
      refine ⟨.ref d, rfl, d, _, 0, _, rfl, rfl, .inl (.inl h2d), at0, .inl ⟨rfl, _, .inl (.inl h2c)⟩, c, _, _, rfl, rfl, h2c, hlast, ?_⟩
      have hdrop : (cells.map V.int).dropLast = cells.dropLast.map V.int := by rw [List.map_dropLast]
      rw [hdrop]
      have h3d : upd (upd (upd H d (.lst [.ref c, .int m, .int (n + 1)])) e (.lst [])) c (.lst (cells.dropLast.map V.int)) d = some (.lst [.ref c, .int m, .int (n + 1)]) := by
        rw [upd_ne hcd.symm]
        exact h2d
      have h3c : upd (upd (upd H d (.lst [.ref c, .int m, .int (n + 1)])) e (.lst [])) c (.lst (cells.dropLast.map V.int)) c = some (.lst (cells.dropLast.map V.int)) := upd_same
      have k3 : Keep d c H (upd (upd (upd H d (.lst [.ref c, .int m, .int (n + 1)])) e (.lst [])) c (.lst (cells.dropLast.map V.int))) := fun b o n1 n2 e1 => by
        rw [upd_ne n2]
        exact k2 b o n1 n2 e1
      have l3 : cells.dropLast.length + 1 ≤ 63 := by
        rw [List.length_dropLast, hcs, List.length_cons]
        rw [hcs, List.length_cons] at hlen
        omega
      generalize cells.getLast hne = z
      refine ⟨.int z, rfl, _, _, rfl, rfl, ⟨by decide, by decide, by decide⟩, _, _, rfl, rfl, _, rfl, ite2 (fun e5 => ?_) (fun e5 => ?_)⟩
      · refine ⟨.ref d, rfl, d, _, 0, _, rfl, rfl, .inl (.inl h3d), at0, .inl ⟨rfl, _, .inl (.inl h3c)⟩, .int z, rfl, .int most, rfl, z, most, rfl, rfl, wd, c, _, _, rfl, rfl, h3c, ?_, ?_⟩
        · rw [List.length_map]
          exact small1000 (by omega)
        · refine ⟨.int z, rfl, .int most, rfl, z, most, rfl, rfl, hm0, ?_⟩
          refine q _ _ ?_ ?_ (Int.emod_nonneg _ (by omega)) (Int.emod_lt_of_pos _ hm0)
          · intro b o n1 n2 e1
            rw [upd_ne n2]
            exact k3 b o n1 n2 e1
          · refine ⟨cells.dropLast ++ [z / most], m, n + 1, ?_, ?_, ?_, by omega, by omega⟩
            · rw [upd_ne hcd.symm]
              exact h3d
            · rw [upd_same, List.map_append]
              rfl
            · rw [List.length_append, List.length_singleton]
              exact l3
      · exact ⟨z, cells.dropLast, rfl, k3, h3d, h3c, by omega⟩
  · rintro σ' H' ⟨z, cells', rfl, kk, h5d, h5c, hl5⟩
    have hn2 : -(2 ^ 64) < n + 1 ∧ n + 1 < 2 ^ 64 := by omega
    refine ⟨.int z, rfl, z, 2147483629, rfl, rfl, (show (0 : Int) < 2147483629 by decide), .ref d, rfl, d, _, 2, _, rfl, rfl, .inl (.inl h5d), at2, 7919, n + 1, rfl, rfl, .inl ⟨by decide, by decide⟩, .ref d, rfl, d, _, 2, _, rfl, rfl, .inl (.inl h5d), at2, 7919 * (n + 1), n + 1, rfl, rfl, .inr hn2, _, _, rfl, rfl, _, _, rfl, rfl, _, 48271, rfl, rfl, .inr ⟨by decide, by decide⟩, _, 2147483647, rfl, rfl, (show (0 : Int) < 2147483647 by decide), ?_⟩
    have b1 := num1_rng z n
    refine ⟨.int (num1 z n), rfl, .int (num1 z n), rfl, num1 z n, num1 z n, rfl, rfl, .inl b1, .int (num1 z n), rfl, 69621, num1 z n, rfl, rfl, .inr b1, _, _, rfl, rfl, .ref d, rfl, d, _, 2, _, rfl, rfl, .inl (.inl h5d), at2, _, _, rfl, rfl, _, 2147483587, rfl, rfl, (show (0 : Int) < 2147483587 by decide), ?_⟩
    have b2 := num2_rng (num1 z n) n
    refine ⟨.int (num2 (num1 z n) n), rfl, .int (num2 (num1 z n) n), rfl, num2 (num1 z n) n, 5, rfl, rfl, ⟨by decide, by decide⟩, _, _, rfl, rfl, num2 (num1 z n) n, _, rfl, rfl, .inl b2, _, 2147483579, rfl, rfl, (show (0 : Int) < 2147483579 by decide), _, 64, rfl, rfl, ⟨by decide, by decide⟩, .int most, rfl, _, most, rfl, rfl, hm0, ?_⟩
    exact q _ _ kk ⟨cells', m, n + 1, h5d, h5c, hl5, by omega, by omega⟩ (Int.emod_nonneg _ (by omega)) (Int.emod_lt_of_pos _ hm0)
end
theorem Keep.seq {K : PySem.W.Frag} {d c a : Addr} {H H' : Hp} {xs : List V} (s : Keep d c H H') (h : SqL K H a xs) (h1 : a ≠ d) (h2 : a ≠ c) : SqL K H' a xs := by
  rcases h with (h | ⟨o, h⟩) | h
  · exact .inl (.inl (s _ _ h1 h2 h))
  · exact .inl (.inr ⟨o, s _ _ h1 h2 h⟩)
  · exact .inr h
theorem cut63 (ns : List Int) : ∃ ms : List Int, cutV (ns.map V.int) none (some 63) = ms.map V.int ∧ ms.length ≤ 63 := by
  refine ⟨ns.take (min 63 ns.length), ?_, ?_⟩
  · unfold cutV
    rw [HT.sIx_none, show HT.sIx (ns.map V.int).length (ns.map V.int).length (some 63) = min 63 (ns.map V.int).length from HT.sIx_nat _ _ 63, List.drop_zero, List.map_take, List.length_map, Nat.sub_zero]
  · rw [List.length_take]
    omega
theorem small_le {n : Nat} (h : n ≤ 1000) : n ≤ sizeLine := Nat.le_of_lt (small1000 h)
section
variable {P : Program} {w : World} {K : PySem.W.Frag} {mg : Str → Option Value} {base : Heap}
abbrev s_law_deck : Stmt := topS 25
theorem sc_law_deck : FnScope ["_law_script", "_law_cells"] ["_law_script"] (defScope s_law_deck) := ⟨rfl, rfl, rfl, by decide +kernel, rfl, by decide +kernel, by decide +kernel⟩
def sp_deck (K : PySem.W.Frag) : Sp := fun vs H Q _ => ∃ (a : Addr) (ns : List Int), vs = [.ref a] ∧ SqL K H a (ns.map V.int) ∧ ∀ H' d c, Same H H' → H d = none → Deck H' d c 0 → Q (.ref d) H'
theorem ok_deck {f : Addr} {fd : FuncData} {k : Nat} (F : Fun K "_law_deck" "_law_deck" s_law_deck f fd) (mlist : mg "list" = none) (msum : mg "sum" = none) (mlen : mg "len" = none) :
    FnOk P w K mg base CX0 (k + 1) f fd ["_law_script"] (sp_deck K) := by
  have nd := sc_law_deck.nd
  refine F.ok sc_law_deck (fun vs H Q E h => ?_) (fun cdv A outer s H vs Q E hr h => ?_)
  · obtain ⟨a, ns, rfl, _⟩ := h
    rfl
  obtain ⟨a, ns, rfl, hS, q⟩ := h
  obtain ⟨ms, hms, hl⟩ := cut63 ns
  refine ⟨_, (pss_cons (ps_set (i := 1) nd rfl (.inl rfl) (pe_callTy call_list_of (by rfl) mlist boot_list (pa_cons (pe_slice sl_list (pv 0) po_none (po_some pe_int)) pa_nil)))
      (pss_one (ps_ret (pe_lst (pa_cons (pe_revL (pv 1)) (pa_cons (pe_op op_add (pe_op op_mod (pe_callB (cr_sum rfl) (by rfl) msum boot_sum (pa_cons (pv 1) pa_nil)) pe_int) (pe_op op_mul pe_int (pe_callB call_len_seq (by rfl) mlen PySem.boot_len (pa_cons (pv 1) pa_nil)))) (pa_cons pe_int pa_nil))))))), ?_⟩
  refine ⟨.ref a, rfl, 63, rfl, a, _, rfl, hS, fun p np => ?_⟩
  rw [hms]
  have s1 : Same H (upd H p (.lst (ms.map V.int))) := same_upd np
  refine ⟨p, _, rfl, .inl (.inl (.inl upd_same)), fun l nl => ?_⟩
  have s2 := same_upd (o := .lst (ms.map V.int)) nl
  have hl2 : SqL K (upd (upd H p (.lst (ms.map V.int))) l (.lst (ms.map V.int))) l (ms.map V.int) := .inl (.inl upd_same)
  refine ⟨.ref l, rfl, l, _, rfl, hl2, fun c nc => ?_⟩
  have s3 := same_upd (o := .lst (ms.map V.int).reverse) nc
  refine ⟨.ref l, rfl, l, ms, rfl, s3.seq hl2, _, 2147483629, rfl, rfl, (show (0 : Int) < 2147483629 by decide), .ref l, rfl, l, _, rfl, .inl (s3.seq hl2), 48271, _, rfl, rfl, .inl ⟨by decide, by decide⟩, _, _, rfl, rfl, small_le (show 3 ≤ 1000 by decide), fun d nd' => ?_⟩
  refine q _ d c ((s1.trans s2).trans (s3.trans (same_upd nd'))) ?_ ?_
  · exact s1.free (s2.free (s3.free nd'))
  · refine ⟨ms.reverse, _, 0, upd_same, ?_, ?_, Int.le_refl 0, Int.le_refl 0⟩
    · have : c ≠ d := ne_of_none (show upd _ c _ c = _ from upd_same) nd'
      rw [upd_ne this, upd_same, List.map_reverse]
    · rw [List.length_reverse]
      exact hl
end
theorem Deck.new {H : Hp} {d c a : Addr} {N : Int} (D : Deck H d c N) (na : H a = none) : a ≠ d ∧ a ≠ c := by
  obtain ⟨cells, m, n, h1, h2, _⟩ := D
  exact ⟨(ne_of_none h1 na).symm, (ne_of_none h2 na).symm⟩
theorem Keep.free {d c a : Addr} {H H' : Hp} (s : Keep d c H H') (na : H' a = none) (h1 : a ≠ d) (h2 : a ≠ c) : H a = none := by
  cases q : H a with
  | none => rfl
  | some o =>
    rw [s a o h1 h2 q] at na
    cases na
end L19

namespace L19
open PySem PySem.Spec PyProof.Rows L2 GR
abbrev L26 : Str := "abcdefghijklmnopqrstuvwxyz"
def sgn (c : Nat) : Str := ⟨#[c]⟩
theorem l26_len : L26.length = 26 := by decide
theorem l26_at : ∀ k, k < 26 → L26.cps.toList[k]? = some (97 + k) := by decide
theorem l26_occ : ∀ k, k < 26 → Builtin.Str.occurrences L26 (sgn (97 + k)) 0 L26.length 1 = [k] := by decide +kernel
def Low (c : Nat) : Prop := 97 ≤ c ∧ c ≤ 122
/-- the words that are no names -/
def barred : List Str := ["key", "if", "at", "count", "sum", "most", "first", "let", "need", "put", "each", "tell"]
/-- a name -/
def Nm (z : Str) : Prop := 1 ≤ z.cps.toList.length ∧ z.cps.toList.length ≤ 8 ∧ (∀ c, c ∈ z.cps.toList → Low c) ∧ z ∉ barred
theorem nm_lit {z : Str} (h : (decide (1 ≤ z.cps.toList.length) && decide (z.cps.toList.length ≤ 8) && z.cps.toList.all (fun c => decide (97 ≤ c) && decide (c ≤ 122)) && decide (z ∉ barred)) = true) : Nm z := by
  simp only [Bool.and_eq_true, decide_eq_true_eq, List.all_eq_true] at h
  obtain ⟨⟨⟨h1, h2⟩, h3⟩, h4⟩ := h
  exact ⟨h1, h2, fun c hc => h3 c hc, h4⟩
theorem barred_q : ∀ z, z ∈ barred → z.cps.toList.head? ≠ some 113 := by decide
/-- the text of single signs, joined -/
theorem join_signs : ∀ cs : List Nat, (Txt.join Str.empty (cs.map sgn)).cps.toList = cs := by
  intro cs
  have hj : ∀ cs : List Nat, TL.joinL [] (cs.map fun c => [c]) = cs := by
    intro cs
    induction cs with
    | nil => rfl
    | cons a r ih =>
      cases r with
      | nil => rfl
      | cons b r =>
        show [a] ++ ([] ++ TL.joinL [] ((b :: r).map fun c => [c])) = a :: b :: r
        rw [ih]
        rfl
  have := TL.tl_join Str.empty (cs.map sgn)
  rw [List.map_map] at this
  rw [TL.join_eq]
  exact this.trans (hj cs)
section
variable {P : Program} {w : World} {K : PySem.W.Frag} {mg : Str → Option Value} {base : Heap}
abbrev s_law_pick : Stmt := topS 27
theorem sc_law_pick : FnScope ["_law_deck_here", "_law_some"] ["_law_deck_here", "_law_some"] (defScope s_law_pick) := ⟨rfl, rfl, rfl, by decide +kernel, rfl, by decide +kernel, by decide +kernel⟩
/-- a pick from a list, or from the letters -/
def sp_pick (K : PySem.W.Frag) : Sp := fun vs H Q _ =>
  (∃ (d c a : Addr) (N : Int) (xs : List V), vs = [.ref d, .ref a] ∧ Deck H d c N ∧ N < 2 ^ 60 ∧ SqL K H a xs ∧ xs ≠ [] ∧ xs.length ≤ 1000 ∧ a ≠ d ∧ a ≠ c ∧ ∀ H' v, Keep d c H H' → Deck H' d c (N + 1) → v ∈ xs → Q v H') ∨
  (∃ (d c : Addr) (N : Int), vs = [.ref d, .str L26] ∧ Deck H d c N ∧ N < 2 ^ 60 ∧ ∀ H' k, Keep d c H H' → Deck H' d c (N + 1) → k < 26 → Q (.str (sgn (97 + k))) H')
theorem ok_pick {f f_law_draw : Addr} {fd fd_law_draw : FuncData} {k : Nat} (F : Fun K "_law_pick" "_law_pick" s_law_pick f fd) (G_law_draw : FnOk P w K mg base CX0 k f_law_draw fd_law_draw ["_law_deck_here", "_law_most"] sp_draw)
    (g_law_draw : mg "_law_draw" = some (.ref f_law_draw)) (K_law_draw : PySem.W.keepIn K (.ref f_law_draw) = true) (b_law_draw : Binds K fd_law_draw ["_law_deck_here", "_law_most"] []) (mlen : mg "len" = none) :
    FnOk P w K mg base CX0 (k + 1) f fd ["_law_deck_here", "_law_some"] (sp_pick K) := by
  have nd := sc_law_pick.nd
  refine F.ok sc_law_pick (fun vs H Q E h => ?_) (fun cdv A outer s H vs Q E hr h => ?_)
  · rcases h with ⟨d, c, a, N, xs, rfl, _⟩ | ⟨d, c, N, rfl, _⟩ <;> rfl
  refine ⟨_, (pss_one (ps_ret (pe_ix ix_seq (pv 1) (pe_call G_law_draw hr (by rfl) g_law_draw K_law_draw b_law_draw .nil pass0 (pa_cons (pv 0) (pa_cons (pe_callB call_len (by rfl) mlen PySem.boot_len (pa_cons (pv 1) pa_nil)) pa_nil))) (fun _ _ => rfl)))), ?_⟩
  rcases h with ⟨d, c, a, N, xs, rfl, D, hN, hS, hne, hlen, had, hac, q⟩ | ⟨d, c, N, rfl, D, hN, q⟩
  · have hpos : 0 < xs.length := List.length_pos_iff.mpr hne
    refine ⟨.ref a, rfl, .ref d, rfl, .ref a, rfl, .ref a, xs.length, rfl, .inl ⟨xs, hS, rfl⟩, d, c, N, (xs.length : Int), rfl, D, hN, by omega, by omega, fun H' r kp D' r0 r1 => ?_⟩
    obtain ⟨j, rfl⟩ := Int.eq_ofNat_of_zero_le r0
    have hj : j < xs.length := by omega
    exact .inl ⟨a, xs, j, xs[j], rfl, rfl, kp.seq hS had hac, atI_nat (List.getElem?_eq_getElem hj), q H' _ kp D' (List.getElem_mem hj)⟩
  · refine ⟨.str L26, rfl, .ref d, rfl, .str L26, rfl, .str L26, 26, rfl, ⟨by rw [l26_len]; decide, l26_len.symm⟩, d, c, N, 26, rfl, D, hN, by decide, by decide, fun H' r kp D' r0 r1 => ?_⟩
    obtain ⟨j, rfl⟩ := Int.eq_ofNat_of_zero_le r0
    have hj : j < 26 := by omega
    exact .inr (.inr ⟨L26, j, 97 + j, rfl, rfl, by rw [l26_len]; decide, atI_nat (l26_at j hj), q H' j kp D' hj⟩)
end
end L19

namespace L19
open PySem PySem.Spec PyProof.Rows L2 GR
/-- lists of texts of single signs -/
def sg (cs : List Nat) : List V := (cs.map sgn).map V.str
theorem sg_length (cs : List Nat) : (sg cs).length = cs.length := by
  unfold sg
  rw [List.length_map, List.length_map]
theorem sg_snoc (cs : List Nat) (c : Nat) : sg cs ++ [V.str (sgn c)] = sg (cs ++ [c]) := by
  unfold sg
  simp
theorem sg_set (cs : List Nat) (i c : Nat) : (sg cs).set i (V.str (sgn c)) = sg (cs.set i c) := by
  unfold sg
  rw [List.map_set, List.map_set]
theorem sg_get {cs : List Nat} {i c : Nat} (h : cs[i]? = some c) : (sg cs)[i]? = some (V.str (sgn c)) := by
  unfold sg
  rw [List.getElem?_map, List.getElem?_map, h]
  rfl
theorem nm_signs {z : Str} {cs : List Nat} (hz : z.cps.toList = 113 :: cs) (h0 : cs.length ≤ 7) (hl : ∀ c, c ∈ cs → Low c) : Nm z := by
  refine ⟨by rw [hz]; simp, by rw [hz, List.length_cons]; omega, ?_, fun hb => ?_⟩
  · rw [hz]
    intro c hc
    rcases List.mem_cons.mp hc with rfl | hc
    · exact ⟨by decide, by decide⟩
    · exact hl c hc
  · have := barred_q z hb
    rw [hz] at this
    exact this rfl
theorem sgn_length (cs : List Nat) : ((cs.map sgn).map (·.length)).sum = cs.length := by
  induction cs with
  | nil => rfl
  | cons c r ih =>
    rw [List.map_cons, List.map_cons, List.sum_cons, ih, List.length_cons]
    show 1 + r.length = r.length + 1
    omega
section
variable {P : Program} {w : World} {K : PySem.W.Frag} {mg : Str → Option Value} {base : Heap}
abbrev s_law_names : Stmt := topS 28
abbrev N_names : List Str := ["_law_deck_here", "_law_many", "_law_letters", "_law_k", "_law_word", "_law_at", "_law_first", "_law_found"]
theorem sc_law_names : FnScope N_names ["_law_deck_here", "_law_many"] (defScope s_law_names) := ⟨rfl, rfl, rfl, by decide +kernel, rfl, by decide +kernel, by decide +kernel⟩
/-- a new list of names -/
def sp_names : Sp := fun vs H Q _ => ∃ (d c : Addr) (N : Int) (many : Nat), vs = [.ref d, .int (many : Int)] ∧ Deck H d c N ∧ N < 2 ^ 55 ∧ many ≤ 100 ∧
  ∀ H' p (zs : List Str), Keep d c H H' → Deck H' d c (N + 20) → H p = none → H' p = some (.lst (zs.map V.str)) → zs.length = many → (∀ z, z ∈ zs → Nm z) → Q (.ref p) H'
theorem ok_names {f f_law_draw f_law_pick : Addr} {fd fd_law_draw fd_law_pick : FuncData} {k : Nat} (F : Fun K "_law_names" "_law_names" s_law_names f fd) (G_law_draw : FnOk P w K mg base CX0 k f_law_draw fd_law_draw ["_law_deck_here", "_law_most"] sp_draw)
    (g_law_draw : mg "_law_draw" = some (.ref f_law_draw)) (K_law_draw : PySem.W.keepIn K (.ref f_law_draw) = true) (b_law_draw : Binds K fd_law_draw ["_law_deck_here", "_law_most"] [])
    (G_law_pick : FnOk P w K mg base CX0 k f_law_pick fd_law_pick ["_law_deck_here", "_law_some"] (sp_pick K))
    (g_law_pick : mg "_law_pick" = some (.ref f_law_pick)) (K_law_pick : PySem.W.keepIn K (.ref f_law_pick) = true) (b_law_pick : Binds K fd_law_pick ["_law_deck_here", "_law_some"] [])
    (mrange : mg "range" = none) (mlen : mg "len" = none) : FnOk P w K mg base CX0 (k + 1) f fd ["_law_deck_here", "_law_many"] sp_names := by
  have nd := sc_law_names.nd
  refine F.ok sc_law_names (fun vs H Q E h => ?_) (fun cdv A outer s H vs Q E hr h => ?_)
  · obtain ⟨d, c, N, many, rfl, _⟩ := h
    rfl
  obtain ⟨d, c, N, many, rfl, D, hN, hmany, q⟩ := h
  refine ⟨_, (pss_cons (ps_set (i := 2) nd rfl (.inr rfl) pe_str)
      (Evl.pss_cut (ps_set (i := 4) nd rfl (.inl rfl) (pe_op op_cat (pe_lst (pa_cons pe_str pa_nil)) (pe_lc (own := [("_law_k", 3)]) rfl nd (pi_range1 rfl mrange (pa_cons (pe_op op_add pe_int (pe_call G_law_draw hr (by rfl) g_law_draw K_law_draw b_law_draw .nil pass0 (pa_cons (pv 0) (pa_cons pe_int pa_nil)))) pa_nil)) (blkOk_by (N := N_names) (sc := defScope s_law_names) (by decide +kernel)) (fun _ _ _ _ _ => (pg_name (i := 3) nd rfl (Or.inl rfl))) (fun _ _ _ _ _ => pts_nil)
          (te := tCall (sp_pick K) [] E0 (tCons (tVar 0) (tCons (tVar 2) tNil)))
          (fun _ _ _ _ _ => (pe_call G_law_pick hr (by rfl) g_law_pick K_law_pick b_law_pick .nil pass0 (pa_cons (pv 0) (pa_cons (pv 2) pa_nil)))))))
      (pss_cons (ps_set (i := 5) nd rfl (.inl rfl) (pe_op op_add pe_int (pe_call G_law_draw hr (by rfl) g_law_draw K_law_draw b_law_draw .nil pass0 (pa_cons (pv 0) (pa_cons (pe_op op_sub (pe_callB call_len_seq (by rfl) mlen PySem.boot_len (pa_cons (pv 4) pa_nil)) pe_int) pa_nil)))))
      (pss_cons (ps_set (i := 6) nd rfl (.inl rfl) (pe_bm PySem.F.plainAttrs_str PySem.F.slot_str_index PySem.F.type_str_index mt_sindex (pv 2) (pa_cons (pe_ix ix_list (pv 4) (pv 5) (fun _ _ => rfl)) pa_nil)))
      (pss_cons (ps_set (i := 7) nd rfl (.inl rfl) (pe_lst pa_nil))
      (pss_cons (ps_for PassesOwn.never rfl (pi_range1 rfl mrange (pa_cons (pv 1) pa_nil)) (pg_name (i := 3) nd rfl (Or.inl rfl))
      (pss_cons (ps_asg (pe_ix ix_str (pv 2) (pe_op op_mod (pe_op op_add (pv 6) (pv 3)) pe_int) (fun _ _ => rfl)) (pg_sub (pv 4) (pv 5) set_list))
        (pss_one (ps_expr (pe_bm PySem.F.plainAttrs_list PySem.F.slot_list_append PySem.F.type_list_append mt_append (pv 7) (pa_cons (pe_join pe_str (pv 4)) pa_nil))))))
      (pss_one (ps_ret (pv 7))))))))), ?_⟩
  -- word = ['q'] + [..]
  refine ⟨fun σ' H' => ∃ wd cs, σ' = [some (.ref d), some (.int (many : Int)), some (.str L26), none, some (.ref wd), none, none, none] ∧ Keep d c H H' ∧ Deck H' d c (N + 8) ∧ H wd = none ∧ wd ≠ d ∧ wd ≠ c ∧ H' wd = some (.lst (sg (113 :: cs))) ∧ 1 ≤ cs.length ∧ cs.length ≤ 7 ∧ (∀ x, x ∈ cs → Low x), ?_, ?_⟩
  · refine ⟨Nat.le_of_lt (small1000 (show 1 ≤ 1000 by decide)), fun l nl => ?_⟩
    have sl := same_upd (o := .lst [.str "q"]) nl
    have D1 := D.same sl
    have hl := D.new nl
    have hl1 : upd H l (.lst [.str "q"]) l = some (.lst [.str "q"]) := upd_same
    refine ⟨.ref d, rfl, d, c, N, 7, rfl, D1, by omega, by decide, by decide, fun H1 r k1 D2 r0 r1 => ?_⟩
    obtain ⟨n, rfl⟩ := Int.eq_ofNat_of_zero_le r0
    refine ⟨1, (n : Int), rfl, rfl, 1 + (n : Int), rfl, by omega, by omega, fun B nB => ?_⟩
    have hB := D2.new nB
    have nlB : l ≠ B := ne_of_none (k1 _ _ hl.1 hl.2 hl1) nB
    have e1n : (1 + (n : Int)).toNat = n + 1 := by omega
    rw [e1n]
    refine lc_range (n := n + 1) (fun i H' => ∃ cs, cs.length = i ∧ (∀ x, x ∈ cs → Low x) ∧ H' B = some (.lst (sg cs)) ∧ (∀ b o, b ≠ d → b ≠ c → b ≠ B → H1 b = some o → H' b = some o) ∧ Deck H' d c (N + 1 + (i : Int))) ?_ ?_ ?_
    · refine ⟨[], rfl, fun x hx => (nomatch hx), upd_same, fun b o _ _ nb e => by rw [upd_ne nb]; exact e, ?_⟩
      exact (D2.same (same_upd nB)).mono (by omega)
    · rintro i H3 hi ⟨cs, hlen, hlow, hB3, k3, D3⟩
      refine ⟨rfl, yes_then ⟨.ref d, rfl, .str L26, rfl, .inr ⟨d, c, _, rfl, D3, by omega, fun H4 j k4 D4 hj => ?_⟩⟩⟩
      refine ⟨_, k4 _ _ hB.1 hB.2 hB3, ?_, cs ++ [97 + j], ?_, ?_, ?_, ?_, ?_⟩
      · rw [sg_length]
        exact small1000 (by omega)
      · rw [List.length_append, hlen]
        rfl
      · intro x hx
        rcases List.mem_append.mp hx with hx | hx
        · exact hlow x hx
        · rw [List.mem_singleton.mp hx]
          unfold Low
          omega
      · rw [upd_same, sg_snoc]
      · intro b o n1 n2 n3 e
        rw [upd_ne n3]
        exact k4 _ _ n1 n2 (k3 b o n1 n2 n3 e)
      · obtain ⟨cells, m, x, g1, g2, g3, g4, g5⟩ := D4
        refine ⟨cells, m, x, ?_, ?_, g3, g4, by omega⟩
        · rw [upd_ne hB.1.symm]
          exact g1
        · rw [upd_ne hB.2.symm]
          exact g2
    · rintro H3 ⟨cs, hlen, hlow, hB3, k3, D3⟩
      have hl3 := k3 _ _ hl.1 hl.2 nlB (k1 _ _ hl.1 hl.2 hl1)
      refine ⟨l, B, _, _, rfl, rfl, hl3, hB3, ?_, fun wd nwd => ?_⟩
      · rw [sg_length]
        exact small_le (show 1 + cs.length ≤ 1000 by omega)
      have hw := D3.new nwd
      have sw := same_upd (o := .lst ([.str "q"] ++ sg cs)) nwd
      refine ⟨wd, cs, rfl, ?_, (D3.same sw).mono (by omega), ?_, hw.1, hw.2, ?_, by omega, by omega, hlow⟩
      · intro b o n1 n2 e
        refine sw _ _ (k3 b o n1 n2 ?_ (k1 _ _ n1 n2 (sl _ _ e)))
        exact ne_of_none (k1 _ _ n1 n2 (sl _ _ e)) nB
      · cases e : H wd with
        | none => rfl
        | some o =>
          have nb := ne_of_none (k1 _ _ hw.1 hw.2 (sl _ _ e)) nB
          rw [k3 wd o hw.1 hw.2 nb (k1 _ _ hw.1 hw.2 (sl _ _ e))] at nwd
          cases nwd
      · exact upd_same
  rintro σ' H1 ⟨wd, cs, rfl, k1, D1, nwd, hwd, hwc, hw1, c1, c7, hlow⟩
  -- at, first
  refine ⟨.ref d, rfl, .ref wd, rfl, wd, _, rfl, .inl (.inl (.inl hw1)), _, 1, rfl, rfl, d, c, N + 8, ((sg (113 :: cs)).length : Int) - 1, rfl, D1, by omega, ?_, ?_, fun H2 r k2 D2 r0 r1 => ⟨_, _, rfl, rfl, ?_⟩⟩
  · rw [sg_length, List.length_cons]
    omega
  · rw [sg_length, List.length_cons]
    omega
  rw [sg_length, List.length_cons] at r1
  obtain ⟨j, rfl⟩ := Int.eq_ofNat_of_zero_le r0
  have hj : j < cs.length := by omega
  have hw2 := k2 _ _ hwd hwc hw1
  have hcj : (113 :: cs)[j + 1]? = some cs[j] := by
    rw [List.getElem?_cons_succ]
    exact List.getElem?_eq_getElem hj
  have hlj := hlow _ (List.getElem_mem hj)
  obtain ⟨m, hm, hm26⟩ : ∃ m, cs[j] = 97 + m ∧ m < 26 := ⟨cs[j] - 97, by unfold Low at hlj; omega, by unfold Low at hlj; omega⟩
  refine ⟨.str L26, rfl, rfl, .ref wd, rfl, .int (1 + (j : Int)), rfl, wd, _, 1 + (j : Int), .str (sgn (97 + m)), rfl, rfl, .inl (.inl hw2), at_of (j := j + 1) (by omega) (by rw [sg_get hcj, hm]), L26, sgn (97 + m), m, [], rfl, rfl, l26_occ m hm26, ?_⟩
  refine ⟨Nat.zero_le _, fun fo nfo => ?_⟩
  have sf := same_upd (o := .lst []) nfo
  have hfo := D2.new nfo
  have nwf : wd ≠ fo := ne_of_none hw2 nfo
  refine ⟨.int (many : Int), rfl, (many : Int), rfl, by omega, by omega, ?_⟩
  have emany : ((many : Int)).toNat = many := by omega
  rw [emany]
  refine for_range (n := many) (fun i σ H' => ∃ (y3 : Option V) (cs' : List Nat) (zs : List Str), σ = [some (.ref d), some (.int (many : Int)), some (.str L26), y3, some (.ref wd), some (.int (1 + (j : Int))), some (.int (m : Int)), some (.ref fo)] ∧ H' wd = some (.lst (sg (113 :: cs'))) ∧ cs'.length = cs.length ∧ (∀ x, x ∈ cs' → Low x) ∧
      H' fo = some (.lst (zs.map V.str)) ∧ zs.length = i ∧ (∀ z, z ∈ zs → Nm z) ∧ (∀ b o, b ≠ wd → b ≠ fo → H2 b = some o → H' b = some o)) ?_ ?_ ?_
  · refine ⟨none, cs, [], rfl, ?_, rfl, hlow, upd_same, rfl, fun z hz => (nomatch hz), fun b o n1 n2 e => by rw [upd_ne n2]; exact e⟩
    rw [upd_ne nwf]
    exact hw2
  · rintro i σ H3 hi ⟨y3, cs', zs, rfl, hw3, hl3, hlow3, hf3, hz3, hnm3, k3⟩
    have hmod : ∃ t : Nat, ((m : Int) + (0 + (i : Int))) % 26 = (t : Int) ∧ t < 26 := ⟨(m + i) % 26, by omega, Nat.mod_lt _ (by decide)⟩
    obtain ⟨t, ht, ht26⟩ := hmod
    refine ⟨.str L26, rfl, .int (m : Int), rfl, .int (0 + (i : Int)), rfl, _, _, rfl, rfl, _, 26, rfl, rfl, (show (0 : Int) < 26 by decide), L26, (t : Int), 97 + t, rfl, congrArg V.int ht, by rw [l26_len]; decide, atI_nat (l26_at t ht26), ?_⟩
    have hix : ixN (sg (113 :: cs')).length (1 + (j : Int)) = some (j + 1) := by
      unfold ixN
      rw [if_pos (by omega), if_pos (by rw [sg_length, List.length_cons]; omega)]
      exact congrArg some (by omega)
    refine ⟨.ref wd, rfl, .int (1 + (j : Int)), rfl, wd, _, 1 + (j : Int), j + 1, rfl, rfl, hw3, hix, ?_⟩
    have hset : (sg (113 :: cs')).set (j + 1) (.str (sgn (97 + t))) = sg (113 :: cs'.set j (97 + t)) := sg_set _ _ _
    have hw4 : upd H3 wd (.lst ((sg (113 :: cs')).set (j + 1) (.str (sgn (97 + t))))) wd = some (.lst (sg (113 :: cs'.set j (97 + t)))) := by rw [upd_same, hset]
    have hf4 : upd H3 wd (.lst ((sg (113 :: cs')).set (j + 1) (.str (sgn (97 + t))))) fo = some (.lst (zs.map V.str)) := by
      rw [upd_ne nwf.symm]
      exact hf3
    refine ⟨.ref fo, rfl, .inl ⟨rfl, _, .inl (.inl hf4)⟩, ⟨_, rfl⟩, .ref wd, rfl, Str.empty, wd, (113 :: cs'.set j (97 + t)).map sgn, rfl, rfl, .inl (.inl (.inl hw4)), ?_, fo, _, _, rfl, rfl, hf4, ?_, ?_⟩
    · rw [sgn_length, List.length_map, List.length_cons, List.length_set]
      show _ + _ * 0 ≤ _
      omega
    · rw [List.length_map]
      exact small1000 (by omega)
    · refine ⟨_, cs'.set j (97 + t), zs ++ [Txt.join Str.empty ((113 :: cs'.set j (97 + t)).map sgn)], rfl, ?_, by rw [List.length_set]; exact hl3, ?_, ?_, by rw [List.length_append, hz3]; rfl, ?_, ?_⟩
      · rw [upd_ne nwf]
        exact hw4
      · intro x hx
        rcases List.mem_or_eq_of_mem_set hx with hx | rfl
        · exact hlow3 x hx
        · unfold Low
          omega
      · rw [upd_same, List.map_append]
        rfl
      · intro z hz
        rcases List.mem_append.mp hz with hz | hz
        · exact hnm3 z hz
        · rw [List.mem_singleton.mp hz]
          refine nm_signs (cs := cs'.set j (97 + t)) (join_signs _) (by rw [List.length_set]; omega) ?_
          intro x hx
          rcases List.mem_or_eq_of_mem_set hx with hx | rfl
          · exact hlow3 x hx
          · unfold Low
            omega
      · intro b o n1 n2 e
        rw [upd_ne n2, upd_ne n1]
        exact k3 b o n1 n2 e
  · rintro σ H3 ⟨y3, cs', zs, rfl, hw3, hl3, hlow3, hf3, hz3, hnm3, k3⟩
    have nHfo : H fo = none := (k1.trans k2).free nfo hfo.1 hfo.2
    refine ⟨.ref fo, rfl, q H3 fo zs ?_ ?_ nHfo hf3 hz3 hnm3⟩
    · intro b o n1 n2 e
      exact k3 b o (ne_of_none e nwd) (ne_of_none e nHfo) (k2 _ _ n1 n2 (k1 _ _ n1 n2 e))
    · obtain ⟨cells, mm, x, e1, e2, e3, e4, e5⟩ := D2
      exact ⟨cells, mm, x, k3 _ _ hwd.symm hfo.1.symm e1, k3 _ _ hwc.symm hfo.2.symm e2, e3, e4, by omega⟩
end
end L19

namespace L19
open PySem PySem.Spec PyProof.Rows L2 GR
theorem Deck.upd {H : Hp} {d c p : Addr} {N : Int} {o : HO} (D : Deck H d c N) (h1 : p ≠ d) (h2 : p ≠ c) : Deck (L2.upd H p o) d c N := by
  obtain ⟨cells, m, n, e1, e2, e3⟩ := D
  exact ⟨cells, m, n, by rw [upd_ne h1.symm]; exact e1, by rw [upd_ne h2.symm]; exact e2, e3⟩
def wD (tl cl nl : Addr) : List (Key × V) := [(.inr "tables", .ref tl), (.inr "columns", .ref cl), (.inr "names", .ref nl)]
theorem wD_t (tl cl nl : Addr) : valV (wD tl cl nl) (.inr "tables") = some (.ref tl) := valV_pos rfl
theorem wD_c (tl cl nl : Addr) : valV (wD tl cl nl) (.inr "columns") = some (.ref cl) := (valV_neg (show ¬ ((.inr "tables" : Key) = .inr "columns") by decide)).trans (valV_pos rfl)
theorem wD_n (tl cl nl : Addr) : valV (wD tl cl nl) (.inr "names") = some (.ref nl) := (valV_neg (show ¬ ((.inr "tables" : Key) = .inr "names") by decide)).trans ((valV_neg (show ¬ ((.inr "columns" : Key) = .inr "names") by decide)).trans (valV_pos rfl))
/-- the world at u: lists of tables, columns, variables -/
structure Wd (H : Hp) (d c u tl cl nl : Addr) (ts cs ns : List Str) : Prop where
  dct : H u = some (.dK (wD tl cl nl))
  ht : H tl = some (.lst (ts.map V.str))
  hc : H cl = some (.lst (cs.map V.str))
  hn : H nl = some (.lst (ns.map V.str))
  t0 : tl ≠ d ∧ tl ≠ c
  c0 : cl ≠ d ∧ cl ≠ c
  n0 : nl ≠ d ∧ nl ≠ c
  u0 : u ≠ d ∧ u ≠ c
  lt : ts.length = 2
  lc : cs.length = 3
  ln : ns.length = 3
  at' : ∀ z, z ∈ ts → Nm z
  ac : ∀ z, z ∈ cs → Nm z
  an : ∀ z, z ∈ ns → Nm z
theorem Wd.keep {H H' : Hp} {d c u tl cl nl : Addr} {ts cs ns : List Str} (W : Wd H d c u tl cl nl ts cs ns) (k : Keep d c H H') : Wd H' d c u tl cl nl ts cs ns :=
  ⟨k _ _ W.u0.1 W.u0.2 W.dct, k _ _ W.t0.1 W.t0.2 W.ht, k _ _ W.c0.1 W.c0.2 W.hc, k _ _ W.n0.1 W.n0.2 W.hn, W.t0, W.c0, W.n0, W.u0, W.lt, W.lc, W.ln, W.at', W.ac, W.an⟩
theorem in_nm : Nm "in" := nm_lit (by decide)
theorem cut_map (zs : List Str) (lo hi : Option Int) (a b : Nat) (h1 : HT.sIx zs.length 0 lo = a) (h2 : HT.sIx zs.length zs.length hi = b) : cutV (zs.map V.str) lo hi = ((zs.drop a).take (b - a)).map V.str := by
  unfold cutV
  rw [List.length_map, h1, h2, List.map_take, List.map_drop]
section
variable {P : Program} {w : World} {K : PySem.W.Frag} {mg : Str → Option Value} {base : Heap}
abbrev s_law_world : Stmt := topS 29
theorem sc_law_world : FnScope ["_law_deck_here", "_law_names_here"] ["_law_deck_here"] (defScope s_law_world) := ⟨rfl, rfl, rfl, by decide +kernel, rfl, by decide +kernel, by decide +kernel⟩
def sp_world : Sp := fun vs H Q _ => ∃ (d c : Addr) (N : Int), vs = [.ref d] ∧ Deck H d c N ∧ N < 2 ^ 54 ∧
  ∀ H' u tl cl nl ts cs ns, Keep d c H H' → Deck H' d c (N + 30) → H u = none → Wd H' d c u tl cl nl ts cs ns → Q (.ref u) H'
theorem ok_world {f f_law_draw f_law_names : Addr} {fd fd_law_draw fd_law_names : FuncData} {k : Nat} (F : Fun K "_law_world" "_law_world" s_law_world f fd) (G_law_draw : FnOk P w K mg base CX0 k f_law_draw fd_law_draw ["_law_deck_here", "_law_most"] sp_draw)
    (g_law_draw : mg "_law_draw" = some (.ref f_law_draw)) (K_law_draw : PySem.W.keepIn K (.ref f_law_draw) = true) (b_law_draw : Binds K fd_law_draw ["_law_deck_here", "_law_most"] [])
    (G_law_names : FnOk P w K mg base CX0 k f_law_names fd_law_names ["_law_deck_here", "_law_many"] sp_names)
    (g_law_names : mg "_law_names" = some (.ref f_law_names)) (K_law_names : PySem.W.keepIn K (.ref f_law_names) = true) (b_law_names : Binds K fd_law_names ["_law_deck_here", "_law_many"] []) : FnOk P w K mg base CX0 (k + 1) f fd ["_law_deck_here"] sp_world := by
  have nd := sc_law_world.nd
  refine F.ok sc_law_world (fun vs H Q E h => ?_) (fun cdv A outer s H vs Q E hr h => ?_)
  · obtain ⟨d, c, N, rfl, _⟩ := h
    rfl
  obtain ⟨d, c, N, rfl, D, hN, q⟩ := h
  refine ⟨_, (pss_cons (ps_set (i := 1) nd rfl (.inl rfl) (pe_call G_law_names hr (by rfl) g_law_names K_law_names b_law_names .nil pass0 (pa_cons (pv 0) (pa_cons pe_int pa_nil))))
      (Evl.pss_cut (ps_if (pt_cmpR op_eq (pe_call G_law_draw hr (by rfl) g_law_draw K_law_draw b_law_draw .nil pass0 (pa_cons (pv 0) (pa_cons pe_int pa_nil))) pe_int (nomark _))
      (pss_one (ps_asg (pe_ix ix_list (pv 1) pe_int (fun _ _ => rfl)) (pg_sub (pv 1) pe_int set_list)))
      pss_nil)
      (pss_one (ps_ret (pe_disp (pps_cons pe_str (pe_slice sl_list (pv 1) po_none (po_some pe_int)) (pps_cons pe_str (pe_op op_cat (pe_slice sl_list (pv 1) (po_some pe_int) (po_some pe_int)) (pe_lst (pa_cons pe_str pa_nil))) (pps_cons pe_str (pe_slice sl_list (pv 1) (po_some pe_int) po_none) pps_nil))) (by decide) rfl (by simp) (by decide)))))), ?_⟩
  refine ⟨.ref d, rfl, d, c, N, 7, rfl, D, by omega, by decide, fun H1 p zs k1 D1 np hp hlen hnm => ?_⟩
  have hpn : p ≠ d ∧ p ≠ c := by
    obtain ⟨cells, m, n, h1, h2, _⟩ := D
    exact ⟨(ne_of_none h1 np).symm, (ne_of_none h2 np).symm⟩
  refine ⟨fun σ' H' => ∃ zs' : List Str, σ' = [some (.ref d), some (.ref p)] ∧ Keep d c H H' ∧ Deck H' d c (N + 25) ∧ H' p = some (.lst (zs'.map V.str)) ∧ zs'.length = 7 ∧ ∀ z, z ∈ zs' → Nm z, ?_, ?_⟩
  · refine ⟨.ref d, rfl, d, c, _, 4, rfl, D1, by omega, by decide, by decide, fun H2 r k2 D2 r0 r1 => ⟨rfl, _, rfl, ite2 (fun e => ?_) (fun e => ?_)⟩⟩
    · have hp2 := k2 _ _ hpn.1 hpn.2 hp
      have h2 : (zs.map V.str)[2]? = some (.str (zs[2]'(by omega))) := by
        rw [List.getElem?_map, List.getElem?_eq_getElem (by omega)]
        rfl
      refine ⟨.ref p, rfl, p, _, 2, _, rfl, rfl, .inl (.inl hp2), atI_nat (j := 2) h2, .ref p, rfl, p, _, 0, 0, rfl, rfl, hp2, ?_, ?_⟩
      · unfold ixN
        rw [if_pos (by decide), List.length_map, hlen]
        rfl
      rw [← List.map_set]
      refine ⟨_, rfl, fun b o n1 n2 e => ?_, ?_, upd_same, by rw [List.length_set, hlen], fun z hz => ?_⟩
      · rw [upd_ne (ne_of_none e np)]
        exact k2 _ _ n1 n2 (k1 _ _ n1 n2 e)
      · exact (D2.upd hpn.1 hpn.2).mono (by omega)
      · rcases List.mem_or_eq_of_mem_set hz with h | rfl
        · exact hnm z h
        · exact hnm _ (List.getElem_mem _)
    · exact ⟨zs, rfl, k1.trans k2, D2.mono (by omega), k2 _ _ hpn.1 hpn.2 hp, hlen, hnm⟩
  rintro σ' H2 ⟨zs, rfl, k2, D2, hp2, hlen, hnm⟩
  intro u nu
  have su := same_upd (o := .dK []) nu
  have hu := D2.new nu
  refine ⟨.ref p, rfl, 2, rfl, p, _, rfl, .inl (.inl (su _ _ hp2)), fun tl ntl => ?_⟩
  have e1 := cut_map zs none (some 2) 0 2 rfl (by rw [show (some (2 : Int)) = some ((2 : Nat) : Int) from rfl, HT.sIx_nat, hlen]; rfl)
  have e2 := cut_map zs (some 2) (some 4) 2 4 (by rw [show (some (2 : Int)) = some ((2 : Nat) : Int) from rfl, HT.sIx_nat, hlen]; rfl) (by rw [show (some (4 : Int)) = some ((4 : Nat) : Int) from rfl, HT.sIx_nat, hlen]; rfl)
  have e3 := cut_map zs (some 4) none 4 7 (by rw [show (some (4 : Int)) = some ((4 : Nat) : Int) from rfl, HT.sIx_nat, hlen]; rfl) (by rw [HT.sIx_none, hlen])
  rw [e1]
  have s1 := same_upd (o := .lst (((zs.drop 0).take (2 - 0)).map V.str)) ntl
  refine ⟨.ref p, rfl, 2, rfl, 4, rfl, p, _, rfl, .inl (.inl (s1 _ _ (su _ _ hp2))), fun ml nml => ?_⟩
  rw [e2]
  have s2 := same_upd (o := .lst (((zs.drop 2).take (4 - 2)).map V.str)) nml
  refine ⟨small_le (show 1 ≤ 1000 by decide), fun il nil => ?_⟩
  have s3 := same_upd (o := .lst [.str "in"]) nil
  have l2 : ((zs.drop 2).take (4 - 2)).length = 2 := by rw [List.length_take, List.length_drop, hlen]; rfl
  refine ⟨ml, il, _, _, rfl, rfl, s3 _ _ upd_same, upd_same, by rw [List.length_map, l2]; exact small_le (show 3 ≤ 1000 by decide), fun cl ncl => ?_⟩
  have ec : (((zs.drop 2).take (4 - 2)).map V.str) ++ [V.str "in"] = (((zs.drop 2).take (4 - 2)) ++ [("in" : Str)]).map V.str := by rw [List.map_append]; rfl
  rw [ec]
  have s4 := same_upd (o := .lst ((((zs.drop 2).take (4 - 2)) ++ [("in" : Str)]).map V.str)) ncl
  refine ⟨.ref p, rfl, 4, rfl, p, _, rfl, .inl (.inl (s4 _ _ (s3 _ _ (s2 _ _ (s1 _ _ (su _ _ hp2)))))), fun nl nnl => ?_⟩
  rw [e3]
  have s5 := same_upd (o := .lst (((zs.drop 4).take (7 - 4)).map V.str)) nnl
  have s45 := s4.trans s5
  have s25 := s2.trans (s3.trans s45)
  have s15 := s1.trans s25
  have u5 := s15 _ _ (show upd H2 u (.dK []) u = _ from upd_same)
  have t5 := s25 _ _ (show upd (upd H2 u (.dK [])) tl (.lst (((zs.drop 0).take (2 - 0)).map V.str)) tl = _ from upd_same)
  have c5 := s5 _ _ (show upd (upd (upd (upd (upd H2 u (.dK [])) tl (.lst (((zs.drop 0).take (2 - 0)).map V.str))) ml (.lst (((zs.drop 2).take (4 - 2)).map V.str))) il (.lst [.str "in"])) cl (.lst ((((zs.drop 2).take (4 - 2)) ++ [("in" : Str)]).map V.str)) cl = _ from upd_same)
  have n5 : upd (upd (upd (upd (upd (upd H2 u (.dK [])) tl (.lst (((zs.drop 0).take (2 - 0)).map V.str))) ml (.lst (((zs.drop 2).take (4 - 2)).map V.str))) il (.lst [.str "in"])) cl (.lst ((((zs.drop 2).take (4 - 2)) ++ [("in" : Str)]).map V.str))) nl (.lst (((zs.drop 4).take (7 - 4)).map V.str)) nl = _ := upd_same
  have s05 := su.trans s15
  have dtl := D2.new (su.free ntl)
  have dcl := (D2.same (su.trans (s1.trans (s2.trans s3)))).new ncl
  have dnl := (D2.same (su.trans (s1.trans (s2.trans (s3.trans s4))))).new nnl
  clear nnl ncl nil nml ntl s1 s2 s3 s4 s5 s45 s25
  revert u5 t5 c5 n5 s05
  clear s15
  generalize upd (upd (upd (upd (upd (upd H2 u (.dK [])) tl (.lst (((zs.drop 0).take (2 - 0)).map V.str))) ml (.lst (((zs.drop 2).take (4 - 2)).map V.str))) il (.lst [.str "in"])) cl (.lst ((((zs.drop 2).take (4 - 2)) ++ [("in" : Str)]).map V.str))) nl (.lst (((zs.drop 4).take (7 - 4)).map V.str)) = H6
  intro u5 t5 c5 n5 s05
  have tu : tl ≠ u := ne_of t5 u5 (fun z => by cases z)
  have cu : cl ≠ u := ne_of c5 u5 (fun z => by cases z)
  have nu' : nl ≠ u := ne_of n5 u5 (fun z => by cases z)
  have nHu : H u = none := k2.free nu hu.1 hu.2
  refine ⟨u5, wD tl cl nl, rfl, (show 3 ≤ 15 by decide), q _ u tl cl nl ((zs.drop 0).take (2 - 0)) ((zs.drop 2).take (4 - 2) ++ [("in" : Str)]) ((zs.drop 4).take (7 - 4)) (fun b o n1 n2 e => ?_) (((D2.same s05).upd hu.1 hu.2).mono (by omega)) nHu ?_⟩
  · rw [upd_ne (ne_of_none e nHu)]
    exact s05 _ _ (k2 _ _ n1 n2 e)
  · refine ⟨upd_same, by rw [upd_ne tu]; exact t5, by rw [upd_ne cu]; exact c5, by rw [upd_ne nu']; exact n5, dtl, dcl, dnl, hu, by rw [List.length_take, List.length_drop, hlen]; rfl, by rw [List.length_append, l2]; rfl, by rw [List.length_take, List.length_drop, hlen]; rfl, fun z hz => hnm z (List.mem_of_mem_drop (List.mem_of_mem_take hz)), fun z hz => ?_, fun z hz => hnm z (List.mem_of_mem_drop (List.mem_of_mem_take hz))⟩
    rcases List.mem_append.mp hz with h | h
    · exact hnm z (List.mem_of_mem_drop (List.mem_of_mem_take h))
    · rw [List.mem_singleton.mp h]
      exact in_nm
end
end L19

namespace GR
open PySem PySem.Spec PyProof.Rows L2
theorem FnG.mono {P : Program} {w : World} {K : PySem.W.Frag} {mg : Str → Option Value} {base : Heap} {CX : CXT} {j k : Nat} {f : Addr} {fd : FuncData} {ps : List Str} {sp : Sp} (F : FnG P w K mg base CX j f fd ps sp) (h : j ≤ k) : FnG P w K mg base CX k f fd ps sp :=
  ⟨F.size, fun A outer s H args us vs Q E g hr => F.go A outer s H args us vs Q E g (hr.mono h)⟩
/-! ### the signs of what repr shows -/
abbrev SO (x : Str) : Prop := ∀ c, c ∈ x.cps.toList → c < 0x110000
theorem so_iff {x : Str} : PyData.strOk x = true ↔ SO x := by
  unfold PyData.strOk
  rw [Array.all_eq_true']
  constructor
  · intro h c hc
    have := h c (by simpa using hc)
    simpa using this
  · intro h c hc
    have := h c (by simpa using hc)
    simpa using this
theorem so_append {x y : Str} (hx : SO x) (hy : SO y) : SO (x ++ y) := fun c hc => by
  rcases mem_cps_append.mp hc with h | h
  · exact hx c h
  · exact hy c h
theorem so_join {sep : Str} (hs : SO sep) {ts : List Str} (h : ∀ t, t ∈ ts → SO t) : SO (Str.join sep ts) := fun c hc => by
  rcases (mem_join sep c ts).mp hc with ⟨t, ht, hc⟩ | ⟨_, hc⟩
  · exact h t ht c hc
  · exact hs c hc
theorem hex_so (w c : Nat) : ∀ k, k ∈ List.replicate (w - ((Nat.toDigits 16 c).map Char.toNat).length) 48 ++ (Nat.toDigits 16 c).map Char.toNat → k < 0x110000 := by
  intro k hk
  rcases List.mem_append.mp hk with h | h
  · have := List.eq_of_mem_replicate h
    omega
  · obtain ⟨ch, _, rfl⟩ := List.mem_map.mp h
    have := ch.valid
    have e : ch.toNat = ch.val.toNat := rfl
    rcases this with h | ⟨_, h⟩
    · have h' : ch.val.toNat < 0xd800 := h
      omega
    · have h' : ch.val.toNat < 0x110000 := h
      omega
theorem reprChar_so {q c : Nat} (hc : c < 0x110000) : ∀ k, k ∈ Builtin.Str.reprChar q c → k < 0x110000 := by
  intro k hk
  have h8 := hex_so 8 c k
  have h4 := hex_so 4 c k
  have h2 := hex_so 2 c k
  unfold Builtin.Str.reprChar at hk
  dsimp only at hk
  repeat' split at hk
  all_goals first
    | (rcases List.mem_append.mp hk with hk | hk
       · (simp only [List.mem_cons, List.not_mem_nil, or_false] at hk; omega)
       · first | exact h2 hk | exact h4 hk | exact h8 hk)
    | (simp only [List.mem_cons, List.not_mem_nil, or_false] at hk; omega)
theorem fold_so {q : Nat} : ∀ (l : List Nat) (acc : Array Nat), (∀ c, c ∈ l → c < 0x110000) → (∀ c, c ∈ acc.toList → c < 0x110000) → ∀ c, c ∈ (l.foldl (fun out c => out ++ (Builtin.Str.reprChar q c).toArray) acc).toList → c < 0x110000
  | [], acc, _, h => h
  | d :: r, acc, hl, h => by
    rw [List.foldl_cons]
    refine fold_so r _ (fun c hc => hl c (List.mem_cons_of_mem _ hc)) fun c hc => ?_
    rw [Array.toList_append, List.mem_append] at hc
    rcases hc with hc | hc
    · exact h c hc
    · exact reprChar_so (hl d List.mem_cons_self) c (by simpa using hc)
theorem repr_so {x : Str} (h : SO x) : SO (reprText x) := fun c hc => by
  have hq : reprQuote x < 0x110000 := by
    unfold reprQuote
    split <;> decide
  unfold reprText at hc
  have hc' : c ∈ ((x.cps.foldl (fun out c => out ++ (Builtin.Str.reprChar (reprQuote x) c).toArray) #[reprQuote x]).push (reprQuote x)).toList := hc
  rw [Array.toList_push, List.mem_append] at hc'
  rcases hc' with hc' | hc'
  · rw [← Array.foldl_toList] at hc'
    refine fold_so x.cps.toList _ h (fun c hc => ?_) c hc'
    have : c = reprQuote x := by simpa using hc
    rw [this]
    exact hq
  · have : c = reprQuote x := by simpa using hc'
    rw [this]
    exact hq
mutual
theorem shown_so : ∀ d : PyData, d.canLay0 = true → SO d.shown
  | .none, _ => by rw [PyData.shown_none]; decide
  | .bool b, _ => by
    rw [PyData.shown_bool]
    cases b <;> decide
  | .int i, _ => fun c hc => by
    by_cases h : 57 < c
    · exact absurd hc (shown_int_free' (k := c) ⟨by omega, .inr h⟩ i)
    · omega
  | .str x, h => by
    rw [PyData.shown_str]
    exact repr_so (so_iff.mp (by simpa [PyData.canLay0] using h))
  | .list xs, h => by
    rw [PyData.shown_list]
    exact so_append (so_append (by decide) (so_join (by decide) (shownAll_so xs (by simpa [PyData.canLay0] using h)))) (by decide)
  | .tuple xs, h => by
    rw [PyData.shown_tuple]
    refine so_append (so_append (by decide) (so_join (by decide) (shownAll_so xs (by simpa [PyData.canLay0] using h)))) ?_
    split <;> decide
  | .dict _, h => by simp [PyData.canLay0] at h
theorem shownAll_so : ∀ xs : List PyData, PyData.canLayAll0 xs = true → ∀ t, t ∈ PyData.shownAll xs → SO t
  | [], _, t, ht => by rw [PyData.shownAll_nil] at ht; exact absurd ht (by simp)
  | x :: xs, h, t, ht => by
    have h' : x.canLay0 = true ∧ PyData.canLayAll0 xs = true := by simpa [PyData.canLayAll0] using h
    rw [PyData.shownAll_cons, List.mem_cons] at ht
    rcases ht with rfl | ht
    · exact shown_so x h'.1
    · exact shownAll_so xs h'.2 t ht
end
theorem shown_ok {d : PyData} (h : d.canLay0 = true) : PyData.strOk d.shown = true := so_iff.mpr (shown_so d h)
section
variable {X : Cx} {pins : List (Addr × Obj)} {σ : L2.St} {H : Hp} {s : Shared}
/-- repr of a truth -/
def rReprB : List V → Hp → VK → Prop := fun xs H Q => ∃ b, xs = [.bl b] ∧ Q (.str (PyData.bool b).shown) H
theorem call_reprB : CallR X (.builtin "repr") rReprB := by
  intro pins s σ H xs us Q I r h
  obtain ⟨b, rfl, q⟩ := h
  obtain ⟨u, rfl, rv⟩ := vals1 r
  obtain rfl : u = Value.bool b := rv
  rw [PyData.shown_bool] at q
  exact P.repr_of_bool ⟨.str _, H, I.kept fun _ _ e => e, ⟨_, rfl⟩, q⟩
end
end GR

namespace L19
open PySem PySem.Spec PyProof.Rows L2 GR
/-! ### data of tuples, texts and ints -/
mutual
/-- no lists in it -/
def flatD : PyData → Bool
  | .tuple ds => flatDs ds
  | .int _ => true
  | .str _ => true
  | .bool _ => true
  | .none => true
  | _ => false
def flatDs : List PyData → Bool
  | [] => true
  | d :: ds => flatD d && flatDs ds
end
theorem flatDs_of : ∀ {ds : List PyData}, (∀ d, d ∈ ds → flatD d = true) → flatDs ds = true
  | [], _ => by rw [flatDs]
  | d :: ds, h => by
    rw [flatDs, h d List.mem_cons_self, flatDs_of fun x hx => h x (List.mem_cons_of_mem _ hx)]
    rfl
/-- the tuples stay -/
def KeepT (H H' : Hp) : Prop := (∀ b xs, H b = some (.tup xs) → H' b = some (.tup xs)) ∧ ∀ b o xs, H b = some (.frz o (.tup xs)) → H' b = some (.frz o (.tup xs))
theorem KeepT.of {H H' : Hp} (s : Same H H') : KeepT H H' := ⟨fun b xs e => s b _ e, fun b o xs e => s b _ e⟩
theorem KeepT.refl {H : Hp} : KeepT H H := ⟨fun _ _ e => e, fun _ _ _ e => e⟩
theorem KeepT.trans {H H1 H2 : Hp} (a : KeepT H H1) (b : KeepT H1 H2) : KeepT H H2 := ⟨fun x xs e => b.1 x xs (a.1 x xs e), fun x o xs e => b.2 x o xs (a.2 x o xs e)⟩
theorem KeepT.seqt {K : PySem.W.Frag} {H H' : Hp} (s : KeepT H H') {a : Addr} {xs : List V} (h : SqT K H a xs) : SqT K H' a xs := by
  rcases h with (h | ⟨o, h⟩) | h
  · exact .inl (.inl (s.1 _ _ h))
  · exact .inl (.inr ⟨o, s.2 _ _ _ h⟩)
  · exact .inr h
theorem KeepT.upd {H : Hp} {a : Addr} {o : HO} (ha : ∀ xs, H a ≠ some (.tup xs)) (hb : ∀ u xs, H a ≠ some (.frz u (.tup xs))) : KeepT H (L2.upd H a o) := by
  refine ⟨fun b xs e => ?_, fun b u xs e => ?_⟩
  · have : b ≠ a := by
      rintro rfl
      exact ha xs e
    rw [upd_ne this]
    exact e
  · have : b ≠ a := by
      rintro rfl
      exact hb u xs e
    rw [upd_ne this]
    exact e
theorem KeepT.lst {H : Hp} {a : Addr} {ys : List V} {o : HO} (h : H a = some (.lst ys)) : KeepT H (L2.upd H a o) := KeepT.upd (fun xs e => by rw [h] at e; cases e) (fun u xs e => by rw [h] at e; cases e)
theorem KeepT.dk {H : Hp} {a : Addr} {ys : List (Key × V)} {o : HO} (h : H a = some (.dK ys)) : KeepT H (L2.upd H a o) := KeepT.upd (fun xs e => by rw [h] at e; cases e) (fun u xs e => by rw [h] at e; cases e)
theorem KeepT.non {H : Hp} {a : Addr} {o : HO} (h : H a = none) : KeepT H (L2.upd H a o) := KeepT.of (same_upd h)
theorem Keep.t {H H' : Hp} {d c : Addr} {N : Int} (k : Keep d c H H') (D : Deck H d c N) : KeepT H H' := by
  obtain ⟨cells, m, n, h1, h2, _⟩ := D
  exact ⟨fun b xs e => k _ _ (ne_of e h1 (fun z => by cases z)) (ne_of e h2 (fun z => by cases z)) e,
    fun b o xs e => k _ _ (ne_of e h1 (fun z => by cases z)) (ne_of e h2 (fun z => by cases z)) e⟩
mutual
theorem dp_keep {K : PySem.W.Frag} {H H' : Hp} (s : KeepT H H') : ∀ (d : PyData) (v : V), flatD d = true → Dp K H v d → Dp K H' v d
  | .none, _, _, h => by
    cases h
    exact .non
  | .bool b, _, _, h => by
    cases h
    exact .bl b
  | .int i, _, _, h => by
    cases h
    exact .int i
  | .str z, _, _, h => by
    cases h
    exact .str z
  | .tuple ds, _, hf, h => by
    cases h with
    | tup h1 h2 => exact .tup (s.seqt h1) (dp_keepAll s ds _ (by rw [flatD] at hf; exact hf) h2)
  | .list ds, _, hf, h => by simp only [flatD, Bool.false_eq_true] at hf
  | .dict ds, _, hf, h => by cases h
theorem dp_keepAll {K : PySem.W.Frag} {H H' : Hp} (s : KeepT H H') : ∀ (ds : List PyData) (vs : List V), flatDs ds = true → DpAll K H vs ds → DpAll K H' vs ds
  | [], _, _, h => by
    cases h
    exact .nil
  | d :: ds, _, hf, h => by
    rw [flatDs, Bool.and_eq_true] at hf
    cases h with
    | cons h1 h2 => exact .cons (dp_keep s d _ hf.1 h1) (dp_keepAll s ds _ hf.2 h2)
end
theorem dpAll_len {K : PySem.W.Frag} {H : Hp} : ∀ {vs : List V} {ds : List PyData}, DpAll K H vs ds → vs.length = ds.length
  | [], _, h => by
    cases h
    rfl
  | v :: vs, _, h => by
    cases h with
    | cons _ h2 => rw [List.length_cons, List.length_cons, dpAll_len h2]
theorem dpAll_append {K : PySem.W.Frag} {H : Hp} : ∀ {vs us : List V} {ds es : List PyData}, DpAll K H vs ds → DpAll K H us es → DpAll K H (vs ++ us) (ds ++ es)
  | [], _, _, _, h, g => by
    cases h
    exact g
  | v :: vs, _, _, _, h, g => by
    cases h with
    | cons h1 h2 => exact .cons h1 (dpAll_append h2 g)
theorem dpAll_at {K : PySem.W.Frag} {H : Hp} : ∀ {vs : List V} {ds : List PyData} {i : Nat} {v : V}, DpAll K H vs ds → vs[i]? = some v → ∃ d, ds[i]? = some d ∧ Dp K H v d
  | _, _, 0, v, .cons h _, e => by
    cases e
    exact ⟨_, rfl, h⟩
  | _, _, i + 1, v, .cons _ h, e => by
    rw [List.getElem?_cons_succ] at e ⊢
    exact dpAll_at h e
  | _, _, _, _, .nil, e => by simp at e
theorem flatDs_append : ∀ {xs ys : List PyData}, flatDs xs = true → flatDs ys = true → flatDs (xs ++ ys) = true
  | [], _, _, h => h
  | x :: xs, ys, h, g => by
    rw [flatDs, Bool.and_eq_true] at h
    rw [List.cons_append, flatDs, h.1, flatDs_append h.2 g]
    rfl
theorem new_tup {K : PySem.W.Frag} {H : Hp} {vs : List V} {ds : List PyData} {p : Addr} (hd : DpAll K H vs ds) (hf : flatDs ds = true) (np : H p = none) : Dp K (upd H p (.tup vs)) (.ref p) (.tuple ds) := .tup (.inl (.inl upd_same)) (dp_keepAll (KeepT.non np) _ _ hf hd)
/-! ### how long a text is -/
def sl (d : PyData) : Nat := d.shown.length
def sls : List PyData → Nat
  | [] => 0
  | d :: ds => sl d + 2 + sls ds
theorem sls_eq : ∀ ds : List PyData, ((PyData.shownAll ds).map (·.length)).sum + 2 * ds.length = sls ds
  | [] => by simp only [PyData.shownAll, List.map_nil, List.sum_nil, List.length_nil, sls]
  | d :: ds => by
    have := sls_eq ds
    simp only [PyData.shownAll, List.map_cons, List.sum_cons, List.length_cons, sls, sl]
    omega
theorem sls_append : ∀ (xs ys : List PyData), sls (xs ++ ys) = sls xs + sls ys
  | [], ys => by simp only [List.nil_append, sls, Nat.zero_add]
  | x :: xs, ys => by
    have := sls_append xs ys
    simp only [List.cons_append, sls]
    omega
theorem sls_le {b : PyData → Nat} : ∀ {ds : List PyData}, (∀ d, d ∈ ds → sl d + 2 ≤ b d) → sls ds ≤ (ds.map b).sum
  | [], _ => Nat.le_refl _
  | d :: ds, h => by
    have h1 := h d List.mem_cons_self
    have h2 := sls_le fun x hx => h x (List.mem_cons_of_mem _ hx)
    simp only [sls, List.map_cons, List.sum_cons]
    omega
theorem sl_tup (ds : List PyData) : sl (.tuple ds) ≤ sls ds + 3 := by
  have h1 := tupleText_len_le (PyData.shownAll ds)
  have h2 := sls_eq ds
  rw [PyData.shownAll_length] at h1
  unfold sl
  simp only [PyData.shown]
  omega
theorem sl_lst (ds : List PyData) : sl (.list ds) ≤ sls ds + 3 := by
  have h1 := listText_len_le (PyData.shownAll ds)
  have h2 := sls_eq ds
  rw [PyData.shownAll_length] at h1
  unfold sl
  simp only [PyData.shown]
  omega
theorem sl_name {z : Str} (h : Nm z) : sl (.str z) ≤ 82 := by
  obtain ⟨_, h2, h3, _⟩ := h
  have e := StrLaws.reprText_len z fun c hc => Nat.lt_of_le_of_lt (h3 c hc).2 (by decide)
  have e2 : z.length = z.cps.toList.length := by
    rw [Array.length_toList]
    rfl
  unfold sl
  rw [PyData.shown_str]
  omega
theorem int_nat {n : Int} (h1 : -(10 ^ 18) ≤ n) (h2 : n ≤ 10 ^ 18) : n.natAbs ≤ 1000000000000000000 := by omega
theorem int_log {n : Int} (h1 : -(10 ^ 18) ≤ n) (h2 : n ≤ 10 ^ 18) : n.natAbs.log2 < 60 := by
  by_cases e : n.natAbs = 0
  · rw [e]; decide
  · exact (Nat.log2_lt e).mpr (Nat.lt_of_le_of_lt (int_nat h1 h2) (by decide))
theorem sl_int {n : Int} (h1 : -(10 ^ 18) ≤ n) (h2 : n ≤ 10 ^ 18) : sl (.int n) ≤ 20 := by
  have e := int_text_length_le10 (k := 19) (by decide) (Nat.lt_of_le_of_lt (int_nat h1 h2) (by decide : 1000000000000000000 < 10 ^ 19))
  unfold sl
  rw [PyData.shown_int, PySem.ofString_length]
  exact e

theorem words_len : ∀ w, w ∈ (["int", "key", "var", "cell", "if", "+", "-", "*", "<", "=", "at", "count", "sum", "most", "first", "in", "let", "need", "tell", "put", "each"] : List Str) → sl (.str w) ≤ 7 := by
  have : ∀ w, w ∈ (["int", "key", "var", "cell", "if", "+", "-", "*", "<", "=", "at", "count", "sum", "most", "first", "in", "let", "need", "tell", "put", "each"] : List Str) → (reprText w).length ≤ 7 := by decide +kernel
  intro w hw
  unfold sl
  rw [PyData.shown_str]
  exact this w hw
/-! ### what is drawn -/
/-- data of tuples, texts and ints, of a bounded depth and length -/
structure Fine (k m : Nat) (x : PyData) : Prop where
  flat : flatD x = true
  shw : x.showable = true
  dep : x.depth ≤ k
  len : sl x + 2 ≤ m
theorem Fine.mono {k m k' m' : Nat} {x : PyData} (h : Fine k m x) (h1 : k ≤ k') (h2 : m ≤ m') : Fine k' m' x := ⟨h.flat, h.shw, Nat.le_trans h.dep h1, Nat.le_trans h.len h2⟩
theorem Fine.str {z : Str} (h : Nm z) : Fine 0 84 (.str z) := ⟨by simp only [flatD], by simp only [PyData.showable], by simp only [PyData.depth]; omega, by have := sl_name h; omega⟩
theorem Fine.word {w : Str} (h : w ∈ (["int", "key", "var", "cell", "if", "+", "-", "*", "<", "=", "at", "count", "sum", "most", "first", "in", "let", "need", "tell", "put", "each"] : List Str)) : Fine 0 9 (.str w) := ⟨by simp only [flatD], by simp only [PyData.showable], by simp only [PyData.depth]; omega, by have := words_len w h; omega⟩
theorem Fine.int {n : Int} (h1 : -(10 ^ 18) ≤ n) (h2 : n ≤ 10 ^ 18) : Fine 0 22 (.int n) := ⟨by simp only [flatD], by
  have := int_log h1 h2
  simp only [PyData.showable]
  exact decide_eq_true (by omega), by simp only [PyData.depth]; omega, by have := sl_int h1 h2; omega⟩
/-- parts of a tuple, with their lengths in all -/
inductive Fines (k : Nat) : Nat → List PyData → Prop
  | nil : Fines k 0 []
  | cons {m n : Nat} {x : PyData} {xs : List PyData} : Fine k m x → Fines k n xs → Fines k (m + n) (x :: xs)
theorem Fines.all {k n : Nat} {xs : List PyData} (h : Fines k n xs) : flatDs xs = true ∧ PyData.showableAll xs = true ∧ PyData.depthAll xs ≤ k ∧ sls xs ≤ n := by
  induction h with
  | nil => exact ⟨by simp only [flatDs], by simp only [PyData.showableAll], by simp only [PyData.depthAll]; omega, Nat.le_refl _⟩
  | cons h1 _ ih =>
    obtain ⟨a, b, c, d⟩ := ih
    refine ⟨by simp only [flatDs, h1.flat, a, Bool.and_self], by simp only [PyData.showableAll, h1.shw, b, Bool.and_self], ?_, ?_⟩
    · have := h1.dep
      simp only [PyData.depthAll]
      omega
    · have := h1.len
      simp only [sls]
      omega
theorem Fines.tup {k n : Nat} {xs : List PyData} (h : Fines k n xs) : Fine (k + 1) (n + 5) (.tuple xs) := by
  obtain ⟨a, b, c, d⟩ := h.all
  refine ⟨by simp only [flatD, a], by simp only [PyData.showable, b], by simp only [PyData.depth]; omega, ?_⟩
  have := sl_tup xs
  omega
theorem Fine.k0 {k m : Nat} {x : PyData} (h : Fine 0 m x) : Fine k m x := h.mono (Nat.zero_le _) (Nat.le_refl _)
end L19

namespace L19
open PySem PySem.Spec PyProof.Rows L2 GR
/-! ### expressions by their form (a let only where the sign + is told among the names): names of tables and columns among zs, variables among sc, a key only where b -/
abbrev ops5 : List Str := ["+", "-", "*", "<", "="]
abbrev aggk : List (Str × Nat × Nat) := [("count", 0, 0), ("sum", 1, 0), ("most", 1, 1), ("first", 0, 1)]
/-- the X of a plain aggregate -/
def rowX (t : Str) : PyData := .tuple [.str "cell", .str t, .tuple [.str "key"], .str "in"]
inductive Cx (zs sc : List Str) : Bool → Nat → PyData → Prop
  | int (b : Bool) (n : Nat) (i : Int) : -(10 ^ 18) ≤ i → i ≤ 10 ^ 18 → Cx zs sc b (n + 1) (.tuple [.str "int", .int i])
  | let_ (b : Bool) (n : Nat) (i : Int) : ("+" : Str) ∈ zs → 0 ≤ i → i ≤ 10000 → Cx zs sc b (n + 1) (.tuple [.str "let", .int i])
  | key (n : Nat) : Cx zs sc true (n + 1) (.tuple [.str "key"])
  | var (b : Bool) (n : Nat) (z : Str) : z ∈ sc → Cx zs sc b (n + 1) (.tuple [.str "var", .str z])
  | cell (b : Bool) (n : Nat) (t v : Str) (x : PyData) : (t ∈ zs ∧ t ≠ "#") → (v ∈ zs ∧ v ≠ "#") → Cx zs sc b n x → Cx zs sc b (n + 1) (.tuple [.str "cell", .str t, x, .str v])
  | op (b : Bool) (n : Nat) (o : Str) (x y : PyData) : o ∈ ops5 → Cx zs sc b n x → Cx zs sc b n y → Cx zs sc b (n + 1) (.tuple [.str o, x, y])
  | at_ (b : Bool) (n : Nat) (x y : PyData) : Cx zs sc b n x → Cx zs sc true n y → Cx zs sc b (n + 1) (.tuple [.str "at", x, y])
  | iff (b : Bool) (n : Nat) (x y z : PyData) : Cx zs sc b n x → Cx zs sc b n y → Cx zs sc b n z → Cx zs sc b (n + 1) (.tuple [.str "if", x, y, z])
  | agg (b : Bool) (n : Nat) (o t : Str) (p : PyData) (xs vs ds : List PyData) : ("#" : Str) ∈ zs → 2 ≤ n → (o, vs.length, ds.length) ∈ aggk → (t ∈ zs ∧ t ≠ "#") → xs.length ≤ 0 → (∀ x, x ∈ xs → Cx zs sc b 1 x) → Cx zs sc true n p → (∀ x, x ∈ vs → Cx zs sc true n x) → (∀ x, x ∈ ds → Cx zs sc b n x) →
      Cx zs sc b (n + 1) (.tuple (.str o :: .str t :: .tuple xs :: rowX t :: p :: (vs ++ ds)))
theorem Cx.mono {zs sc : List Str} : ∀ {b : Bool} {n m : Nat} {x : PyData}, Cx zs sc b n x → n ≤ m → Cx zs sc b m x := by
  intro b n m x h
  induction h generalizing m with
  | int b n i h1 h2 => intro hm; obtain ⟨k, rfl⟩ : ∃ k, m = k + 1 := ⟨m - 1, by omega⟩; exact .int b k i h1 h2
  | let_ b n i g9 h1 h2 => intro hm; obtain ⟨k, rfl⟩ : ∃ k, m = k + 1 := ⟨m - 1, by omega⟩; exact .let_ b k i g9 h1 h2
  | key n => intro hm; obtain ⟨k, rfl⟩ : ∃ k, m = k + 1 := ⟨m - 1, by omega⟩; exact .key k
  | var b n z h1 => intro hm; obtain ⟨k, rfl⟩ : ∃ k, m = k + 1 := ⟨m - 1, by omega⟩; exact .var b k z h1
  | cell b n t v x h1 h2 _ ih => intro hm; obtain ⟨k, rfl⟩ : ∃ k, m = k + 1 := ⟨m - 1, by omega⟩; exact .cell b k t v x h1 h2 (ih (by omega))
  | op b n o x y h1 _ _ ih1 ih2 => intro hm; obtain ⟨k, rfl⟩ : ∃ k, m = k + 1 := ⟨m - 1, by omega⟩; exact .op b k o x y h1 (ih1 (by omega)) (ih2 (by omega))
  | at_ b n x y _ _ ih1 ih2 => intro hm; obtain ⟨k, rfl⟩ : ∃ k, m = k + 1 := ⟨m - 1, by omega⟩; exact .at_ b k x y (ih1 (by omega)) (ih2 (by omega))
  | iff b n x y z _ _ _ ih1 ih2 ih3 => intro hm; obtain ⟨k, rfl⟩ : ∃ k, m = k + 1 := ⟨m - 1, by omega⟩; exact .iff b k x y z (ih1 (by omega)) (ih2 (by omega)) (ih3 (by omega))
  | agg b n o t p xs vs ds hh h0 h1 h2 h3 h4 _ _ _ _ ih2 ih3 ih4 => intro hm; obtain ⟨k, rfl⟩ : ∃ k, m = k + 1 := ⟨m - 1, by omega⟩; exact .agg b k o t p xs vs ds hh (by omega) h1 h2 h3 h4 (ih2 (by omega)) (fun x hx => ih3 x hx (by omega)) (fun x hx => ih4 x hx (by omega))
/-- a key may be allowed -/
theorem Cx.free {zs sc : List Str} {b : Bool} {n : Nat} {x : PyData} (h : Cx zs sc b n x) : Cx zs sc true n x := by
  induction h with
  | int b n i h1 h2 => exact .int true n i h1 h2
  | let_ b n i g9 h1 h2 => exact .let_ true n i g9 h1 h2
  | key n => exact .key n
  | var b n z h1 => exact .var true n z h1
  | cell b n t v x h1 h2 _ ih => exact .cell true n t v x h1 h2 ih
  | op b n o x y h1 _ _ ih1 ih2 => exact .op true n o x y h1 ih1 ih2
  | at_ b n x y _ h2 ih1 _ => exact .at_ true n x y ih1 h2
  | iff b n x y z _ _ _ ih1 ih2 ih3 => exact .iff true n x y z ih1 ih2 ih3
  | agg b n o t p xs vs ds hh h0 h1 h2 h3 _ h5 h6 _ ih1 _ _ ih4 => exact .agg true n o t p xs vs ds hh h0 h1 h2 h3 ih1 h5 h6 ih4
/-- more names -/
theorem Cx.wide {zs zs' sc sc' : List Str} (hz : ∀ z, z ∈ zs → z ∈ zs') (hs : ∀ z, z ∈ sc → z ∈ sc') {b : Bool} {n : Nat} {x : PyData} (h : Cx zs sc b n x) : Cx zs' sc' b n x := by
  induction h with
  | int b n i h1 h2 => exact .int b n i h1 h2
  | let_ b n i g9 h1 h2 => exact .let_ b n i (hz _ g9) h1 h2
  | key n => exact .key n
  | var b n z h1 => exact .var b n z (hs _ h1)
  | cell b n t v x h1 h2 _ ih => exact .cell b n t v x ⟨hz _ h1.1, h1.2⟩ ⟨hz _ h2.1, h2.2⟩ ih
  | op b n o x y h1 _ _ ih1 ih2 => exact .op b n o x y h1 ih1 ih2
  | at_ b n x y _ _ ih1 ih2 => exact .at_ b n x y ih1 ih2
  | iff b n x y z _ _ _ ih1 ih2 ih3 => exact .iff b n x y z ih1 ih2 ih3
  | agg b n o t p xs vs ds hh h0 h1 h2 h3 _ _ _ _ ih1 ih2 ih3 ih4 => exact .agg b n o t p xs vs ds (hz _ hh) h0 h1 ⟨hz _ h2.1, h2.2⟩ h3 ih1 ih2 ih3 ih4
end L19

namespace L19
open PySem PySem.Spec PyProof.Rows L2 GR
/-- how many draws, how long -/
def dx : Nat → Int
  | 0 => 10
  | n + 1 => 30 + 6 * dx n
theorem dx_pos : ∀ n, 10 ≤ dx n
  | 0 => by simp only [dx]; omega
  | n + 1 => by
    have := dx_pos n
    simp only [dx]
    omega
def em : Nat → Nat
  | 0 => 100
  | n + 1 => 3 * em n + 240
theorem em_pos : ∀ n, 100 ≤ em n
  | 0 => by simp only [em]; omega
  | n + 1 => by
    have := em_pos n
    simp only [em]
    omega
theorem small1000 {n : Nat} (h : n ≤ 1000) : n < sizeLine := by
  have : sizeLine = 16777216 := by decide
  omega
theorem h1000 {n : Nat} (h : n ≤ 1000) : n ≤ sizeLine := small_le h
theorem noSl_str {z : Str} {pos : Pos} {k} : NoSl (.Constant (.str z) k pos) := fun _ _ => rfl
theorem noSl_name {x : Str} {pos : Pos} : NoSl (.Name x pos) := fun _ _ => rfl
theorem iteA {c : Bool} {A B : Prop} (h : A) (h2 : ¬ c = true → B) : if c = true then A else B := by
  split
  · exact h
  · rename_i e
    exact h2 e
def kv4 (a b c e : Addr) : List (Key × V) := [(.inr "count", .ref a), (.inr "sum", .ref b), (.inr "most", .ref c), (.inr "first", .ref e)]
theorem kv4_1 (a b c e : Addr) : valV (mergeK [] (kv4 a b c e)) (.inr "count") = some (.ref a) := valV_pos rfl
theorem kv4_2 (a b c e : Addr) : valV (mergeK [] (kv4 a b c e)) (.inr "sum") = some (.ref b) := (valV_neg (show ¬ ((.inr "count" : Key) = .inr "sum") by decide)).trans (valV_pos rfl)
theorem kv4_3 (a b c e : Addr) : valV (mergeK [] (kv4 a b c e)) (.inr "most") = some (.ref c) := (valV_neg (show ¬ ((.inr "count" : Key) = .inr "most") by decide)).trans ((valV_neg (show ¬ ((.inr "sum" : Key) = .inr "most") by decide)).trans (valV_pos rfl))
theorem kv4_4 (a b c e : Addr) : valV (mergeK [] (kv4 a b c e)) (.inr "first") = some (.ref e) := (valV_neg (show ¬ ((.inr "count" : Key) = .inr "first") by decide)).trans ((valV_neg (show ¬ ((.inr "sum" : Key) = .inr "first") by decide)).trans ((valV_neg (show ¬ ((.inr "most" : Key) = .inr "first") by decide)).trans (valV_pos rfl)))
theorem Fines.append {k m n : Nat} {xs ys : List PyData} (h : Fines k m xs) (g : Fines k n ys) : Fines k (m + n) (xs ++ ys) := by
  induction h with
  | nil => rw [Nat.zero_add]; exact g
  | @cons a b x xs h1 _ ih =>
    rw [Nat.add_assoc]
    exact .cons h1 ih
/-- the names of tables and columns -/
abbrev nms (ts cs : List Str) : List Str := ("in" : Str) :: (ts ++ cs)
/-- a sign where aggregates may be -/
def mark (l : Int) : List Str := if l < 2 then ["#"] else []
abbrev nmx (l : Int) (ts cs : List Str) : List Str := ("in" : Str) :: (ts ++ (cs ++ mark l))
theorem mark_max {l : Int} (h0 : 0 ≤ l) (h2 : l ≤ 2) : mark (if l > 1 then l else 1) = mark l := by
  unfold mark
  split <;> split <;> simp_all <;> omega
theorem mark_one {l : Int} (h : ¬ l = 2) (h2 : l ≤ 2) : mark l = mark 1 := by
  unfold mark
  rw [if_pos (by omega), if_pos (by decide)]
theorem nmx_max {l : Int} {ts cs : List Str} (h0 : 0 ≤ l) (h2 : l ≤ 2) : nmx (if l > 1 then l else 1) ts cs = nmx l ts cs := by
  show ("in" : Str) :: (ts ++ (cs ++ mark (if l > 1 then l else 1))) = ("in" : Str) :: (ts ++ (cs ++ mark l))
  rw [mark_max h0 h2]
theorem nmx_one {l : Int} {ts cs : List Str} (h : ¬ l = 2) (h2 : l ≤ 2) : nmx 1 ts cs = nmx l ts cs := by
  show ("in" : Str) :: (ts ++ (cs ++ mark 1)) = ("in" : Str) :: (ts ++ (cs ++ mark l))
  rw [mark_one h h2]
theorem mark_in : ("#" : Str) ∈ mark 1 := by decide
/-- one that may be picked -/
def GV (K : PySem.W.Frag) (zs sc : List Str) (b : Bool) (H : Hp) (v : V) : Prop := ∃ x, Dp K H v x ∧ Fine 3 100 x ∧ Cx zs sc b 2 x
theorem GV.keep {K : PySem.W.Frag} {zs sc : List Str} {b : Bool} {H H' : Hp} {v : V} (h : GV K zs sc b H v) (k : KeepT H H') : GV K zs sc b H' v := by
  obtain ⟨x, h1, h2, h3⟩ := h
  exact ⟨x, dp_keep k _ _ h2.flat h1, h2, h3⟩
theorem nm_hash {z : Str} (h : Nm z) : z ≠ "#" := fun e => by
  have := (h.2.2.1 35 (by rw [e]; decide)).1
  omega
section
variable {P : Program} {w : World} {K : PySem.W.Frag} {mg : Str → Option Value} {base : Heap}
abbrev s_law_expression : Stmt := topS 30
abbrev N_ex : List Str := ["_law_deck_here", "_law_world_here", "_law_deep", "_law_scope", "_law_loose", "_law_way", "_law_some", "_law_table", "_law_one", "_law_near", "_law_other", "_law_inner", "_law_guard", "_law_word", "_law_name"]
abbrev ps_ex : List Str := ["_law_deck_here", "_law_world_here", "_law_deep", "_law_scope", "_law_loose"]
theorem sc_law_expression : FnScope N_ex ps_ex (defScope s_law_expression) := ⟨rfl, rfl, rfl, by decide +kernel, rfl, by decide +kernel, by decide +kernel⟩
/-- the list of variables that may be used -/
structure Scp (H : Hp) (d c sc : Addr) (scope : List Str) : Prop where
  at' : H sc = some (.lst (scope.map V.str))
  n0 : sc ≠ d ∧ sc ≠ c
  nm : ∀ z, z ∈ scope → Nm z
  len : scope.length ≤ 10
theorem Scp.keep {H H' : Hp} {d c sc : Addr} {scope : List Str} (S : Scp H d c sc scope) (k : Keep d c H H') : Scp H' d c sc scope := ⟨k _ _ S.n0.1 S.n0.2 S.at', S.n0, S.nm, S.len⟩
def sp_expr (K : PySem.W.Frag) (n : Nat) : Sp := fun vs H Q _ => ∃ (d c u tl cl nl sc : Addr) (N deep loose : Int) (ts cs ns scope : List Str), vs = [.ref d, .ref u, .int deep, .ref sc, .int loose] ∧ Deck H d c N ∧ N + dx n < 2 ^ 54 ∧ Wd H d c u tl cl nl ts cs ns ∧ Scp H d c sc scope ∧
  deep ≤ (n : Int) ∧ 0 ≤ loose ∧ loose ≤ 2 ∧ ∀ H' v x, Keep d c H H' → Deck H' d c (N + dx n) → Fine (n + 3) (em n) x → Cx (nmx loose ts cs) scope (decide (0 < loose)) (n + 2) x → Dp K H' v x → Q v H'
/-- tuples of a word and one more -/
theorem tup2 {k m : Nat} {w : Str} {x : PyData} (hw : w ∈ (["int", "key", "var", "cell", "if", "+", "-", "*", "<", "=", "at", "count", "sum", "most", "first", "in", "let", "need", "tell", "put", "each"] : List Str)) (hx : Fine k m x) : Fine (k + 1) (m + 14) (.tuple [.str w, x]) :=
  ((Fines.cons (Fine.word hw).k0 (.cons hx .nil)).tup).mono (Nat.le_refl _) (by omega)
theorem fine_key : Fine 1 14 (.tuple [.str "key"]) := ((Fines.cons (Fine.word (w := "key") (by decide)).k0 .nil).tup).mono (Nat.le_refl _) (by decide)
theorem ok_expr_step {n : Nat} {f f_law_draw f_law_pick : Addr} {fd fd_law_draw fd_law_pick : FuncData} {k : Nat} (F : Fun K "_law_expression" "_law_expression" s_law_expression f fd) (G_law_draw : FnOk P w K mg base CX0 k f_law_draw fd_law_draw ["_law_deck_here", "_law_most"] sp_draw)
    (g_law_draw : mg "_law_draw" = some (.ref f_law_draw)) (K_law_draw : PySem.W.keepIn K (.ref f_law_draw) = true) (b_law_draw : Binds K fd_law_draw ["_law_deck_here", "_law_most"] [])
    (G_law_pick : FnOk P w K mg base CX0 k f_law_pick fd_law_pick ["_law_deck_here", "_law_some"] (sp_pick K))
    (g_law_pick : mg "_law_pick" = some (.ref f_law_pick)) (K_law_pick : PySem.W.keepIn K (.ref f_law_pick) = true) (b_law_pick : Binds K fd_law_pick ["_law_deck_here", "_law_some"] [])
    (G : FnOk P w K mg base CX0 k f fd ps_ex (fun vs H Q E => ∃ m, n = m + 1 ∧ sp_expr K m vs H Q E)) (g : mg "_law_expression" = some (.ref f)) (Kf : PySem.W.keepIn K (.ref f) = true) (b : Binds K fd ps_ex [])
    (mint : mg "int" = none) (mmax : mg "max" = none) : FnOk P w K mg base CX0 (k + 1) f fd ps_ex (sp_expr K n) := by
  have nd := sc_law_expression.nd
  refine F.ok sc_law_expression (fun vs H Q E h => ?_) (fun cdv A outer s H vs Q E hr h => ?_)
  · obtain ⟨d, c, u, tl, cl, nl, sc, N, deep, loose, ts, cs, ns, scope, rfl, _⟩ := h
    rfl
  obtain ⟨d, c, u, tl, cl, nl, sc, N, deep, loose, ts, cs, ns, scope, rfl, D, hN, W, S, hdeep, hl0, hl2, q⟩ := h
  have hp := dx_pos n
  have hu1 : (A.deeper (envOfC "_law_expression" (defScope s_law_expression) s.heap.objs.size f cdv)).units + 1 < cLine := by
    have := hr.units
    omega
  refine ⟨_, (pss_cons (ps_set (i := 5) nd rfl (.inl rfl) (pe_call G_law_draw hr (by rfl) g_law_draw K_law_draw b_law_draw .nil pass0 (pa_cons (pv 0) (pa_cons pe_int pa_nil))))
      (pss_cons (ps_if (PW.pt (pw_or (pt_cmpR op_lt (pv 2) pe_int (nomark _)) (pw_or1 (pt_cmpR op_lt (pv 5) pe_int (nomark _)))))
      (pss_cons (ps_set (i := 6) nd rfl (.inl rfl) (pe_lst (pa_cons (pe_tup (pa_cons pe_str (pa_cons (pe_call G_law_draw hr (by rfl) g_law_draw K_law_draw b_law_draw .nil pass0 (pa_cons (pv 0) (pa_cons pe_int pa_nil))) pa_nil))) (pa_cons (pe_tup (pa_cons pe_str (pa_cons (pe_ix ix_list (pe_lst (pa_cons (pe_op op_sub (pe_call G_law_draw hr (by rfl) g_law_draw K_law_draw b_law_draw .nil pass0 (pa_cons (pv 0) (pa_cons pe_int pa_nil))) pe_int) (pa_cons (pe_op op_pow pe_int pe_int) pa_nil))) (pe_callTy call_int1 (by rfl) mint boot_int (pa_cons (pe_cmpR op_eq (pe_call G_law_draw hr (by rfl) g_law_draw K_law_draw b_law_draw .nil pass0 (pa_cons (pv 0) (pa_cons pe_int pa_nil))) pe_int (nomark _)) pa_nil)) (fun _ _ => rfl)) pa_nil))) pa_nil))))
        (pss_one (ps_ret (pe_call G_law_pick hr (by rfl) g_law_pick K_law_pick b_law_pick .nil pass0 (pa_cons (pv 0) (pa_cons (pe_op op_cat (pe_op op_cat (pv 6) (pe_lc (own := [("_law_name", 14)]) rfl nd (pi_list (pv 3)) (blkOk_by (N := N_ex) (sc := defScope s_law_expression) (by decide +kernel)) (fun _ _ _ _ _ => (pg_name (i := 14) nd rfl (Or.inl rfl))) (fun _ _ _ _ _ => pts_nil) (te := tTup (tCons (tC (.str "var")) (tCons (tVar 14) tNil))) (fun _ _ _ _ _ => (pe_tup (pa_cons pe_str (pa_cons (pv 14) pa_nil)))))) (pe_op op_rep (pe_lst (pa_cons (pe_tup (pa_cons pe_str pa_nil)) pa_nil)) (pe_callTy call_int1 (by rfl) mint boot_int (pa_cons (pe_cmpR op_gt (pv 4) pe_int (nomark _)) pa_nil)))) pa_nil))))))
      pss_nil)
      (pss_cons (ps_set (i := 7) nd rfl (.inl rfl) (pe_call G_law_pick hr (by rfl) g_law_pick K_law_pick b_law_pick .nil pass0 (pa_cons (pv 0) (pa_cons (pe_dget hu1 (pv 1) pe_str noSl_str) pa_nil))))
      (pss_cons (ps_set (i := 8) nd rfl (.inl rfl) (pe_call G hr (by rfl) g Kf b .nil pass0 (pa_cons (pv 0) (pa_cons (pv 1) (pa_cons (pe_op op_sub (pv 2) pe_int) (pa_cons (pv 3) (pa_cons (pv 4) pa_nil)))))))
      (Evl.pss_cut (ps_set (i := 9) nd rfl (.inl rfl) (pe_ifExp (pt_cmpR op_eq (pv 4) pe_int (nomark _)) (pe_call G hr (by rfl) g Kf b .nil pass0 (pa_cons (pv 0) (pa_cons (pv 1) (pa_cons pe_int (pa_cons (pv 3) (pa_cons (pv 4) pa_nil)))))) (pv 8)))
      (pss_cons (ps_if (pt_cmpR op_lt (pv 5) pe_int (nomark _))
      (pss_one (ps_ret (pe_tup (pa_cons pe_str (pa_cons (pv 7) (pa_cons (pv 9) (pa_cons (pe_call G_law_pick hr (by rfl) g_law_pick K_law_pick b_law_pick .nil pass0 (pa_cons (pv 0) (pa_cons (pe_dget hu1 (pv 1) pe_str noSl_str) pa_nil))) pa_nil)))))))
      pss_nil)
      (pss_cons (ps_set (i := 10) nd rfl (.inl rfl) (pe_call G hr (by rfl) g Kf b .nil pass0 (pa_cons (pv 0) (pa_cons (pv 1) (pa_cons (pe_op op_sub (pv 2) pe_int) (pa_cons (pv 3) (pa_cons (pv 4) pa_nil)))))))
      (pss_cons (ps_if (pt_cmpR op_lt (pv 5) pe_int (nomark _))
      (pss_one (ps_ret (pe_tup (pa_cons (pe_call G_law_pick hr (by rfl) g_law_pick K_law_pick b_law_pick .nil pass0 (pa_cons (pv 0) (pa_cons (pe_lst (pa_cons pe_str (pa_cons pe_str (pa_cons pe_str (pa_cons pe_str (pa_cons pe_str (pa_cons pe_str pa_nil))))))) pa_nil))) (pa_cons (pv 8) (pa_cons (pv 10) pa_nil))))))
      pss_nil)
      (pss_cons (ps_set (i := 11) nd rfl (.inl rfl) (pe_call G hr (by rfl) g Kf b .nil pass0 (pa_cons (pv 0) (pa_cons (pv 1) (pa_cons (pe_op op_sub (pv 2) pe_int) (pa_cons (pv 3) (pa_cons (pe_callB (call_max2 rfl) (by rfl) mmax boot_max (pa_cons pe_int (pa_cons (pv 4) pa_nil))) pa_nil)))))))
      (pss_cons (ps_if (pt_cmpR op_eq (pv 5) pe_int (nomark _))
      (pss_one (ps_ret (pe_tup (pa_cons pe_str (pa_cons (pv 9) (pa_cons (pv 11) pa_nil))))))
      pss_nil)
      (pss_cons (ps_if (PW.pt (pw_or (pt_cmpR op_eq (pv 5) pe_int (nomark _)) (pw_or1 (pt_cmpR op_eq (pv 4) pe_int (nomark _)))))
      (pss_one (ps_ret (pe_tup (pa_cons pe_str (pa_cons (pv 8) (pa_cons (pv 10) (pa_cons (pe_call G hr (by rfl) g Kf b .nil pass0 (pa_cons (pv 0) (pa_cons (pv 1) (pa_cons (pe_op op_sub (pv 2) pe_int) (pa_cons (pv 3) (pa_cons (pv 4) pa_nil)))))) pa_nil)))))))
      pss_nil)
      (pss_cons (ps_set (i := 12) nd rfl (.inl rfl) (pe_call G hr (by rfl) g Kf b .nil pass0 (pa_cons (pv 0) (pa_cons (pv 1) (pa_cons (pe_op op_sub (pv 2) pe_int) (pa_cons (pv 3) (pa_cons pe_int pa_nil)))))))
      (pss_cons (ps_set (i := 13) nd rfl (.inl rfl) (pe_call G_law_pick hr (by rfl) g_law_pick K_law_pick b_law_pick .nil pass0 (pa_cons (pv 0) (pa_cons (pe_lst (pa_cons pe_str (pa_cons pe_str (pa_cons pe_str (pa_cons pe_str pa_nil))))) pa_nil))))
      (pss_cons (ps_set (i := 6) nd rfl (.inl rfl) (pe_tup (pa_cons (pv 13) (pa_cons (pv 7) (pa_cons (pe_tup pa_nil) (pa_cons (pe_tup (pa_cons pe_str (pa_cons (pv 7) (pa_cons (pe_tup (pa_cons pe_str pa_nil)) (pa_cons pe_str pa_nil))))) (pa_cons (pv 12) pa_nil)))))))
      (pss_one (ps_ret (pe_op op_catT (pv 6) (pe_dget hu1 (pe_disp (pps_cons pe_str (pe_tup pa_nil) (pps_cons pe_str (pe_tup (pa_cons (pv 11) pa_nil)) (pps_cons pe_str (pe_tup (pa_cons (pv 11) (pa_cons (pv 10) pa_nil))) (pps_cons pe_str (pe_tup (pa_cons (pv 10) pa_nil)) pps_nil)))) (by decide) rfl (by simp) (by decide)) (pv 13) noSl_name)))))))))))))))))), ?_⟩
  have LIM : (10 : Int) ^ 18 = 1000000000000000000 := by decide
  refine ⟨.ref d, rfl, d, c, N, 12, rfl, D, by omega, by decide, by decide, fun H1 way k1 D1 w0 w1 => ?_⟩
  refine ⟨.int deep, rfl, _, _, rfl, rfl, _, rfl, iteA ?leaf (fun e => ⟨.int way, rfl, _, _, rfl, rfl, _, rfl, iteA ?leaf (fun e2 => ?rest)⟩)⟩
  case leaf =>
    have S1 := S.keep k1
    refine ⟨.ref d, rfl, d, c, _, 5, rfl, D1, by omega, by decide, by decide, fun H2 r2 k2 D2 a2 b2 => ⟨h1000 (show 2 ≤ 1000 by decide), fun p1 n1 => ?_⟩⟩
    have g1 : GV K (nmx loose ts cs) scope (decide (0 < loose)) (upd H2 p1 (.tup [.str "int", .int r2])) (.ref p1) := ⟨_, new_tup (.cons (.str "int") (.cons (.int r2) .nil)) rfl n1, (tup2 (by decide) (Fine.int (by omega) (by omega))).mono (by decide) (by decide), .int _ _ _ (by omega) (by omega)⟩
    have s1 := same_upd (o := .tup [.str "int", .int r2]) n1
    have D3 := D2.same s1
    have k3 := (k1.trans k2).trans (Keep.of s1)
    revert g1 D3 k3
    clear s1
    generalize upd H2 p1 (.tup [.str "int", .int r2]) = H3
    intro g1 D3 k3
    refine ⟨.ref d, rfl, d, c, _, 9, rfl, D3, by omega, by decide, by decide, fun H4 r4 k4 D4 a4 b4 => ⟨_, _, rfl, rfl, _, _, rfl, rfl, ?_⟩⟩
    refine ⟨⟨by decide, by decide⟩, h1000 (show 2 ≤ 1000 by decide), fun l nl => ?_⟩
    dsimp only
    rw [show (10 : Int) ^ (18 : Int).toNat = 10 ^ 18 from rfl]
    have sl := same_upd (o := .lst [.int (r4 - 3), .int (10 ^ 18)]) nl
    have hl : upd H4 l (.lst [.int (r4 - 3), .int (10 ^ 18)]) l = some (.lst [.int (r4 - 3), .int (10 ^ 18)]) := upd_same
    have hln := D4.new nl
    have D5 := D4.same sl
    have g4 := (g1.keep (k4.t D3)).keep (KeepT.of sl)
    have k5 := (k3.trans k4).trans (Keep.of sl)
    revert hl D5 g4 k5
    clear sl
    generalize upd H4 l (.lst [.int (r4 - 3), .int (10 ^ 18)]) = H5
    intro hl D5 g4 k5
    refine ⟨.ref d, rfl, d, c, _, 8, rfl, D5, by omega, by decide, by decide, fun H6 r6 k6 D6 a6 b6 => ⟨rfl, .inr ⟨_, rfl, ?_⟩⟩⟩
    have hl6 := k6 _ _ hln.1 hln.2 hl
    have g6 := g4.keep (k6.t D5)
    have k06 := k5.trans k6
    obtain ⟨y, hy1, hy2, hy3⟩ : ∃ y : Int, -(10 ^ 18) ≤ y ∧ y ≤ 10 ^ 18 ∧ atI [V.int (r4 - 3), V.int (10 ^ 18)] (if decide (V.int r6 = V.int 5) = true then 1 else 0) = some (.int y) := by
      by_cases e : V.int r6 = V.int 5
      · rw [decide_eq_true e]
        exact ⟨10 ^ 18, by omega, by omega, at1⟩
      · rw [decide_eq_false e]
        exact ⟨r4 - 3, by omega, by omega, at0⟩
    refine ⟨l, _, _, .int y, rfl, rfl, .inl (.inl hl6), hy3, h1000 (show 2 ≤ 1000 by decide), fun p2 n2 => ⟨h1000 (show 2 ≤ 1000 by decide), fun ls nls => ?_⟩⟩
    have g7 : GV K (nmx loose ts cs) scope (decide (0 < loose)) (upd H6 p2 (.tup [.str "int", .int y])) (.ref p2) := ⟨_, new_tup (.cons (.str "int") (.cons (.int y) .nil)) rfl n2, (tup2 (by decide) (Fine.int hy1 hy2)).mono (by decide) (by decide), .int _ _ _ hy1 hy2⟩
    have s7 := same_upd (o := .tup [.str "int", .int y]) n2
    have s8 := same_upd (o := .lst [.ref p1, .ref p2]) nls
    have hls : upd (upd H6 p2 (.tup [.str "int", .int y])) ls (.lst [.ref p1, .ref p2]) ls = some (.lst [.ref p1, .ref p2]) := upd_same
    have s78 := s7.trans s8
    have g8 := g7.keep (KeepT.of s8)
    have g81 := g6.keep (KeepT.of s78)
    have D8 := D6.same s78
    have k8 := k06.trans (Keep.of s78)
    revert hls g8 g81 D8 k8
    clear s78 s8 s7 g7 nls n2
    generalize upd (upd H6 p2 (.tup [.str "int", .int y])) ls (.lst [.ref p1, .ref p2]) = H8
    intro hls g8 g81 D8 k8
    have S8 := S.keep k8
    refine ⟨.ref d, rfl, .ref ls, rfl, .ref sc, rfl, sc, rfl, ⟨_, .inl (.inl S8.at')⟩, fun B nB => ?_⟩
    have hBd := D8.new nB
    have hBs : sc ≠ B := ne_of_none S8.at' nB
    have hBl : ls ≠ B := ne_of_none hls nB
    refine lc_list (xs := scope.map V.str) (fun i H' => ∃ us, H' B = some (.lst us) ∧ us.length = i ∧ (∀ v, v ∈ us → GV K (nmx loose ts cs) scope (decide (0 < loose)) H' v) ∧ ∀ b ob, b ≠ B → H8 b = some ob → H' b = some ob) ?_ ?_ ?_ ?_
    · exact ⟨[], upd_same, rfl, fun v hv => (nomatch hv), fun b ob nb e => by rw [upd_ne nb]; exact e⟩
    · rintro i H' _ ⟨us, _, _, _, kk⟩
      exact .inl (.inl (kk _ _ hBs S8.at'))
    · rintro i x H9 hx ⟨us, hB, hl9, hg, kk⟩
      rw [List.getElem?_map] at hx
      obtain ⟨z, hz, rfl⟩ := Option.map_eq_some_iff.mp hx
      have hi : i < scope.length := (List.getElem?_eq_some_iff.mp hz).1
      have hsl := S.len
      refine ⟨rfl, yes_then ⟨.str z, rfl, h1000 (show 2 ≤ 1000 by decide), fun pz npz => ?_⟩⟩
      have sz := same_upd (o := .tup [.str "var", .str z]) npz
      have gz : GV K (nmx loose ts cs) scope (decide (0 < loose)) (upd H9 pz (.tup [.str "var", .str z])) (.ref pz) := ⟨_, new_tup (.cons (.str "var") (.cons (.str z) .nil)) rfl npz, (tup2 (by decide) (Fine.str (S.nm z (List.mem_of_getElem? hz)))).mono (by decide) (by decide), .var _ _ _ (List.mem_of_getElem? hz)⟩
      have hB2 := sz _ _ hB
      have kB : KeepT (upd H9 pz (.tup [.str "var", .str z])) (upd (upd H9 pz (.tup [.str "var", .str z])) B (.lst (us ++ [.ref pz]))) := KeepT.lst hB2
      refine ⟨us, hB2, small1000 (by omega), us ++ [.ref pz], upd_same, by rw [List.length_append, hl9]; rfl, fun v hv => ?_, fun b ob nb e => ?_⟩
      · rcases List.mem_append.mp hv with h | h
        · exact ((hg v h).keep (KeepT.of sz)).keep kB
        · rw [List.mem_singleton.mp h]
          exact gz.keep kB
      · rw [upd_ne nb]
        exact sz _ _ (kk b ob nb e)
    · rintro H9 ⟨us, hB, hl9, hg, kk⟩
      rw [List.length_map] at hl9
      have hsl := S.len
      have s89 : Same H8 H9 := fun b ob e => kk b ob (ne_of_none e nB) e
      refine ⟨ls, B, _, _, rfl, rfl, s89 _ _ hls, hB, h1000 (show 2 + us.length ≤ 1000 by omega), fun L1 nL1 => ?_⟩
      have sA := same_upd (o := .lst ([.ref p1, .ref p2] ++ us)) nL1
      have hL1 : upd H9 L1 (.lst ([.ref p1, .ref p2] ++ us)) L1 = some (.lst ([.ref p1, .ref p2] ++ us)) := upd_same
      have hgA : ∀ v, v ∈ [.ref p1, .ref p2] ++ us → GV K (nmx loose ts cs) scope (decide (0 < loose)) (upd H9 L1 (.lst ([.ref p1, .ref p2] ++ us))) v := fun v hv => by
        rcases List.mem_append.mp hv with h | h
        · simp only [List.mem_cons, List.not_mem_nil, or_false] at h
          rcases h with rfl | rfl
          · exact g81.keep (KeepT.of (s89.trans sA))
          · exact g8.keep (KeepT.of (s89.trans sA))
        · exact (hg v h).keep (KeepT.of sA)
      have D9 := D8.same (s89.trans sA)
      have k9 := k8.trans (Keep.of (s89.trans sA))
      have lA : ([V.ref p1, .ref p2] ++ us).length ≤ 12 := by
        rw [List.length_append]
        show 2 + us.length ≤ 12
        omega
      have nA : [V.ref p1, .ref p2] ++ us ≠ [] := List.cons_ne_nil _ _
      revert hL1 hgA D9 k9 lA nA
      clear sA nL1
      generalize [V.ref p1, .ref p2] ++ us = uA
      generalize upd H9 L1 (.lst uA) = H10
      intro hL1 hgA D9 k9 lA nA
      refine ⟨h1000 (show 1 ≤ 1000 by decide), fun pk npk => ⟨h1000 (show 1 ≤ 1000 by decide), fun lk nlk => ⟨.int loose, rfl, _, _, rfl, rfl, .inr ⟨_, rfl, ?_⟩⟩⟩⟩
      have gk : GV K (nmx loose ts cs) scope true (upd H10 pk (.tup [.str "key"])) (.ref pk) := ⟨_, new_tup (.cons (.str "key") .nil) rfl npk, fine_key.mono (by decide) (by decide), .key _⟩
      have sk := same_upd (o := .tup [.str "key"]) npk
      have skl := same_upd (o := .lst [.ref pk]) nlk
      have hlk : upd (upd H10 pk (.tup [.str "key"])) lk (.lst [.ref pk]) lk = some (.lst [.ref pk]) := upd_same
      have gk2 := gk.keep (KeepT.of skl)
      have s10 := sk.trans skl
      revert hlk gk2 s10
      clear sk skl gk nlk npk
      generalize upd (upd H10 pk (.tup [.str "key"])) lk (.lst [.ref pk]) = H11
      intro hlk gk2 s10
      refine ⟨lk, _, _, rfl, rfl, hlk, ?_, ?_, ?_, fun L2 nL2 => ?_⟩
      · split <;> decide
      · split <;> decide
      · split
        · exact h1000 (show 1 * 1 ≤ 1000 by decide)
        · exact h1000 (show 1 * 0 ≤ 1000 by decide)
      have hB1 : ∀ v, v ∈ (List.replicate (if decide (loose > 0) = true then 1 else 0 : Int).toNat [V.ref pk]).flatten → v = V.ref pk ∧ 0 < loose := by
        intro v hv
        split at hv
        · rename_i hl
          exact ⟨by simpa using hv, of_decide_eq_true hl⟩
        · exact absurd hv (by simp)
      have hB2 : (List.replicate (if decide (loose > 0) = true then 1 else 0 : Int).toNat [V.ref pk]).flatten.length ≤ 1 := by
        split
        · exact Nat.le_refl 1
        · exact Nat.zero_le 1
      revert hB1 hB2
      generalize (List.replicate (if decide (loose > 0) = true then 1 else 0 : Int).toNat [V.ref pk]).flatten = uB
      intro hB1 hB2
      have s11 := same_upd (o := .lst uB) nL2
      have hL2 : upd H11 L2 (.lst uB) L2 = some (.lst uB) := upd_same
      have s12 := s10.trans s11
      have g12 := gk2.keep (KeepT.of s11)
      revert hL2 s12 g12
      clear s11 nL2
      generalize upd H11 L2 (.lst uB) = H12
      intro hL2 s12 g12
      refine ⟨L1, L2, _, _, rfl, rfl, s12 _ _ hL1, hL2, h1000 (by omega), fun L3 nL3 => ?_⟩
      have s13 := same_upd (o := .lst (uA ++ uB)) nL3
      have D13 := D9.same (s12.trans s13)
      have k13 := k9.trans (Keep.of (s12.trans s13))
      have h3 := (D9.same s12).new nL3
      refine .inl ⟨d, c, L3, _, uA ++ uB, rfl, D13, by omega, .inl (.inl upd_same), fun e => nA (List.append_eq_nil_iff.mp e).1, by rw [List.length_append]; omega, h3.1, h3.2, fun H14 v k14 D14 hv => ?_⟩
      obtain ⟨x, hx1, hx2, hx3⟩ : GV K (nmx loose ts cs) scope (decide (0 < loose)) (upd H12 L3 (.lst (uA ++ uB))) v := by
        rcases List.mem_append.mp hv with h | h
        · exact (hgA v h).keep (KeepT.of (s12.trans s13))
        · obtain ⟨e1, e2⟩ := hB1 v h
          rw [e1, decide_eq_true e2]
          exact g12.keep (KeepT.of s13)
      exact q H14 v x (k13.trans k14) (D14.mono (by omega)) (hx2.mono (by omega) (em_pos n)) (hx3.mono (by omega)) (dp_keep (k14.t D13) _ _ hx2.flat hx1)
  case rest =>
    have e' : ¬ deep < 1 := by simpa using e
    obtain ⟨m, rfl⟩ : ∃ m, n = m + 1 := ⟨n - 1, by omega⟩
    have hdx : dx (m + 1) = 30 + 6 * dx m := rfl
    have hem : em (m + 1) = 3 * em m + 240 := rfl
    have hpm := dx_pos m
    have hme := em_pos m
    have W1 := W.keep k1
    -- the table
    refine ⟨.ref d, rfl, .ref u, rfl, u, .ref tl, rfl, ?_, .inl ⟨d, c, tl, _, _, rfl, D1, by omega, .inl (.inl W1.ht), ?_, ?_, W1.t0.1, W1.t0.2, fun H2 vt k2 D2 hvt => ?_⟩⟩
    · rw [← wD_t tl cl nl]
      exact DGet.k (k := .inr "tables") W1.dct
    · intro e
      have := congrArg List.length e
      rw [List.length_map, W.lt] at this
      cases this
    · rw [List.length_map, W.lt]
      decide
    obtain ⟨t, ht, rfl⟩ := List.mem_map.mp hvt
    have ft := Fine.str (W.at' t ht)
    have k02 := k1.trans k2
    -- one
    refine ⟨.ref d, rfl, .ref u, rfl, .int deep, rfl, deep, 1, rfl, rfl, .ref sc, rfl, .int loose, rfl, m, rfl, d, c, u, tl, cl, nl, sc, _, deep - 1, loose, ts, cs, ns, scope, rfl, D2, by omega, W.keep k02, S.keep k02, by omega, hl0, hl2, fun H3 v1 x1 k3 D3x f1 c1 p1 => ?_⟩
    have k03 := k02.trans k3
    -- near
    refine ⟨fun σ' H' => ∃ vn xn, σ' = [some (.ref d), some (.ref u), some (.int deep), some (.ref sc), some (.int loose), some (.int way), none, some (.str t), some v1, some vn, none, none, none, none, none] ∧ Keep d c H H' ∧ Deck H' d c (N + 2 + 2 * dx m) ∧ Dp K H' v1 x1 ∧ Dp K H' vn xn ∧ Fine (m + 3) (em m) xn ∧ Cx (nmx loose ts cs) scope (decide (0 < loose)) (m + 2) xn, ?_, ?_⟩
    · refine ⟨.int loose, rfl, rfl, _, rfl, ite2 (fun e3 => ?_) (fun e3 => ?_)⟩
      · refine ⟨.ref d, rfl, .ref u, rfl, .ref sc, rfl, .int loose, rfl, m, rfl, d, c, u, tl, cl, nl, sc, _, 0, loose, ts, cs, ns, scope, rfl, D3x, by omega, W.keep k03, S.keep k03, by omega, hl0, hl2, fun H4 vn xn k4 D4 fn cn pn => ?_⟩
        exact ⟨vn, xn, rfl, k03.trans k4, D4.mono (by omega), dp_keep (k4.t D3x) _ _ f1.flat p1, pn, fn, cn⟩
      · exact ⟨v1, rfl, v1, x1, rfl, k03, D3x.mono (by omega), p1, p1, f1, c1⟩
    rintro σ' H4 ⟨vn, xn, rfl, k04, D4, p14, pn4, fn, cn⟩
    have W4 := W.keep k04
    have S4 := S.keep k04
    -- a cell
    refine ⟨.int way, rfl, _, _, rfl, rfl, _, rfl, ite2 (fun e4 => ?_) (fun e4 => ?_)⟩
    · refine ⟨.str t, rfl, vn, rfl, .ref d, rfl, .ref u, rfl, u, .ref cl, rfl, ?_, .inl ⟨d, c, cl, _, _, rfl, D4, by omega, .inl (.inl W4.hc), ?_, ?_, W4.c0.1, W4.c0.2, fun H5 vc k5 D5 hvc => ?_⟩⟩
      · rw [← wD_c tl cl nl]
        exact DGet.k (k := .inr "columns") W4.dct
      · intro e
        have := congrArg List.length e
        rw [List.length_map, W.lc] at this
        cases this
      · rw [List.length_map, W.lc]
        decide
      obtain ⟨z, hz, rfl⟩ := List.mem_map.mp hvc
      have fz := Fine.str (W.ac z hz)
      refine ⟨h1000 (show 4 ≤ 1000 by decide), fun p np => ?_⟩
      have s6 := same_upd (o := .tup [.str "cell", .str t, vn, .str z]) np
      have pn5 := dp_keep (k5.t D4) _ _ fn.flat pn4
      have F := (Fines.cons (Fine.word (w := "cell") (by decide)).k0 (.cons ft.k0 (.cons fn (.cons fz.k0 .nil)))).tup
      exact q _ _ _ ((k04.trans k5).trans (Keep.of s6)) ((D5.same s6).mono (by omega)) (F.mono (by omega) (by omega)) (.cell _ _ _ _ _ ⟨List.mem_cons_of_mem _ (List.mem_append_left _ ht), nm_hash (W.at' t ht)⟩ ⟨List.mem_cons_of_mem _ (List.mem_append_right _ (List.mem_append_left _ hz)), nm_hash (W.ac z hz)⟩ cn) (new_tup (.cons (.str _) (.cons (.str _) (.cons pn5 (.cons (.str _) .nil)))) (by simp only [flatDs, flatD, fn.flat, Bool.and_self]) np)
    -- the other
    refine ⟨.ref d, rfl, .ref u, rfl, .int deep, rfl, deep, 1, rfl, rfl, .ref sc, rfl, .int loose, rfl, m, rfl, d, c, u, tl, cl, nl, sc, _, deep - 1, loose, ts, cs, ns, scope, rfl, D4, by omega, W4, S4, by omega, hl0, hl2, fun H5 v2 x2 k5 D5 f2 c2 p2 => ?_⟩
    have k05 := k04.trans k5
    have p15 := dp_keep (k5.t D4) _ _ f1.flat p14
    have pn5 := dp_keep (k5.t D4) _ _ fn.flat pn4
    refine ⟨.int way, rfl, _, _, rfl, rfl, _, rfl, ite2 (fun e5 => ?_) (fun e5 => ?_)⟩
    · refine ⟨.ref d, rfl, h1000 (show 6 ≤ 1000 by decide), fun l nl => ?_⟩
      have sl := same_upd (o := .lst [.str "+", .str "-", .str "*", .str "<", .str "=", .str "+"]) nl
      have hln := D5.new nl
      refine .inl ⟨d, c, l, _, [.str "+", .str "-", .str "*", .str "<", .str "=", .str "+"], rfl, D5.same sl, by omega, .inl (.inl upd_same), List.cons_ne_nil _ _, (show 6 ≤ 1000 by decide), hln.1, hln.2, fun H6 vo k6 D6 hvo => ?_⟩
      obtain ⟨o, ho, ho5, rfl⟩ : ∃ o : Str, o ∈ (["int", "key", "var", "cell", "if", "+", "-", "*", "<", "=", "at", "count", "sum", "most", "first", "in", "let", "need", "tell", "put", "each"] : List Str) ∧ o ∈ ops5 ∧ vo = .str o := by
        simp only [List.mem_cons, List.not_mem_nil, or_false] at hvo
        rcases hvo with rfl | rfl | rfl | rfl | rfl | rfl
        · exact ⟨_, by decide, by decide, rfl⟩
        · exact ⟨_, by decide, by decide, rfl⟩
        · exact ⟨_, by decide, by decide, rfl⟩
        · exact ⟨_, by decide, by decide, rfl⟩
        · exact ⟨_, by decide, by decide, rfl⟩
        · exact ⟨_, by decide, by decide, rfl⟩
      have kt6 := (KeepT.of sl).trans (k6.t (D5.same sl))
      refine ⟨v1, rfl, v2, rfl, h1000 (show 3 ≤ 1000 by decide), fun p np => ?_⟩
      have s7 := same_upd (o := .tup [.str o, v1, v2]) np
      have F := (Fines.cons (Fine.word ho).k0 (.cons f1 (.cons f2 .nil))).tup
      exact q _ _ _ ((k05.trans (Keep.of sl)).trans (k6.trans (Keep.of s7))) ((D6.same s7).mono (by omega)) (F.mono (by omega) (by omega)) (.op _ _ _ _ _ ho5 c1 c2) (new_tup (.cons (.str _) (.cons (dp_keep kt6 _ _ f1.flat p15) (.cons (dp_keep kt6 _ _ f2.flat p2) .nil))) (by simp only [flatDs, flatD, f1.flat, f2.flat, Bool.and_self]) np)
    -- the inner one
    have W5 := W.keep k05
    have S5 := S.keep k05
    refine ⟨.ref d, rfl, .ref u, rfl, .int deep, rfl, deep, 1, rfl, rfl, .ref sc, rfl, .int loose, rfl, _, _, rfl, m, rfl, d, c, u, tl, cl, nl, sc, _, deep - 1, _, ts, cs, ns, scope, rfl, D5, by omega, W5, S5, by omega, ?_, ?_, fun H6 v3 x3 k6 D6 f3 c3 p3 => ?_⟩
    · split <;> omega
    · split <;> omega
    have c3t : Cx (nmx loose ts cs) scope true (m + 2) x3 := by
      have := c3.free
      rw [nmx_max hl0 hl2] at this
      exact this
    have k06 := k05.trans k6
    have p16 := dp_keep (k6.t D5) _ _ f1.flat p15
    have pn6 := dp_keep (k6.t D5) _ _ fn.flat pn5
    have p26 := dp_keep (k6.t D5) _ _ f2.flat p2
    refine ⟨.int way, rfl, rfl, _, rfl, ite2 (fun e6 => ?_) (fun e6 => ?_)⟩
    · refine ⟨vn, rfl, v3, rfl, h1000 (show 3 ≤ 1000 by decide), fun p np => ?_⟩
      have s7 := same_upd (o := .tup [.str "at", vn, v3]) np
      have F := (Fines.cons (Fine.word (w := "at") (by decide)).k0 (.cons fn (.cons f3 .nil))).tup
      exact q _ _ _ (k06.trans (Keep.of s7)) ((D6.same s7).mono (by omega)) (F.mono (by omega) (by omega)) (.at_ _ _ _ _ cn c3t) (new_tup (.cons (.str _) (.cons pn6 (.cons p3 .nil))) (by simp only [flatDs, flatD, fn.flat, f3.flat, Bool.and_self]) np)
    refine ⟨.int way, rfl, rfl, _, rfl, iteA ?aif (fun e7 => ⟨.int loose, rfl, rfl, _, rfl, iteA ?aif (fun e8 => ?agg)⟩)⟩
    case aif =>
      refine ⟨v1, rfl, v2, rfl, .ref d, rfl, .ref u, rfl, .int deep, rfl, deep, 1, rfl, rfl, .ref sc, rfl, .int loose, rfl, m, rfl, d, c, u, tl, cl, nl, sc, _, deep - 1, loose, ts, cs, ns, scope, rfl, D6, by omega, W.keep k06, S.keep k06, by omega, hl0, hl2, fun H7 v4 x4 k7 D7 f4 c4 p4 => ⟨h1000 (show 4 ≤ 1000 by decide), fun p np => ?_⟩⟩
      have s8 := same_upd (o := .tup [.str "if", v1, v2, v4]) np
      have F := (Fines.cons (Fine.word (w := "if") (by decide)).k0 (.cons f1 (.cons f2 (.cons f4 .nil)))).tup
      exact q _ _ _ ((k06.trans k7).trans (Keep.of s8)) ((D7.same s8).mono (by omega)) (F.mono (by omega) (by omega)) (.iff _ _ _ _ _ c1 c2 c4) (new_tup (.cons (.str _) (.cons (dp_keep (k7.t D6) _ _ f1.flat p16) (.cons (dp_keep (k7.t D6) _ _ f2.flat p26) (.cons p4 .nil)))) (by simp only [flatDs, flatD, f1.flat, f2.flat, f4.flat, Bool.and_self]) np)
    case agg =>
      have hne : ¬ loose = 2 := fun z => e8 (by rw [z]; exact decide_eq_true rfl)
      have hmk := mark_one hne hl2
      refine ⟨.ref d, rfl, .ref u, rfl, .int deep, rfl, deep, 2, rfl, rfl, .ref sc, rfl, m, rfl, d, c, u, tl, cl, nl, sc, _, deep - 2, 1, ts, cs, ns, scope, rfl, D6, by omega, W.keep k06, S.keep k06, by omega, by decide, by decide, fun H7 v5 x5 k7 D7 f5 c5 p5 => ?_⟩
      have k07 := k06.trans k7
      have p27 := dp_keep (k7.t D6) _ _ f2.flat p26
      have p37 := dp_keep (k7.t D6) _ _ f3.flat p3
      refine ⟨.ref d, rfl, h1000 (show 4 ≤ 1000 by decide), fun l nl => ?_⟩
      have sl := same_upd (o := .lst [.str "count", .str "sum", .str "most", .str "first"]) nl
      have hln := D7.new nl
      refine .inl ⟨d, c, l, _, [.str "count", .str "sum", .str "most", .str "first"], rfl, D7.same sl, by omega, .inl (.inl upd_same), List.cons_ne_nil _ _, (show 4 ≤ 1000 by decide), hln.1, hln.2, fun H8 vo k8 D8 hvo => ?_⟩
      have kt8 := (KeepT.of sl).trans (k8.t (D7.same sl))
      have k08 := (k07.trans (Keep.of sl)).trans k8
      have p28 := dp_keep kt8 _ _ f2.flat p27
      have p38 := dp_keep kt8 _ _ f3.flat p37
      have p58 := dp_keep kt8 _ _ f5.flat p5
      obtain ⟨o, ho4, rfl⟩ : ∃ o : Str, (o = "count" ∨ o = "sum" ∨ o = "most" ∨ o = "first") ∧ vo = .str o := by
        simp only [List.mem_cons, List.not_mem_nil, or_false] at hvo
        rcases hvo with rfl | rfl | rfl | rfl
        · exact ⟨_, .inl rfl, rfl⟩
        · exact ⟨_, .inr (.inl rfl), rfl⟩
        · exact ⟨_, .inr (.inr (.inl rfl)), rfl⟩
        · exact ⟨_, .inr (.inr (.inr rfl)), rfl⟩
      have ho : o ∈ (["int", "key", "var", "cell", "if", "+", "-", "*", "<", "=", "at", "count", "sum", "most", "first", "in", "let", "need", "tell", "put", "each"] : List Str) := by
        rcases ho4 with rfl | rfl | rfl | rfl <;> decide
      refine ⟨.str o, rfl, .str t, rfl, Nat.zero_le _, fun z0 m0 => ⟨.str t, rfl, h1000 (show 1 ≤ 1000 by decide), fun z1 m1 => ⟨h1000 (show 4 ≤ 1000 by decide), fun z2 m2 => ⟨v5, rfl, h1000 (show 5 ≤ 1000 by decide), fun z3 m3 => ?_⟩⟩⟩⟩
      have t0 := same_upd (o := .tup []) m0
      have t1 := same_upd (o := .tup [.str "key"]) m1
      have t2 := same_upd (o := .tup [.str "cell", .str t, .ref z1, .str "in"]) m2
      have t3 := same_upd (o := .tup [.str o, .str t, .ref z0, .ref z2, v5]) m3
      have b0 : Dp K (upd H8 z0 (.tup [])) (.ref z0) (.tuple []) := .tup (.inl (.inl upd_same)) .nil
      have b1 := new_tup (K := K) (.cons (.str "key") .nil) rfl m1
      have b2 := new_tup (K := K) (.cons (.str "cell") (.cons (.str t) (.cons b1 (.cons (.str "in") .nil)))) rfl m2
      have b0' := dp_keep (KeepT.of ((t1.trans t2).trans t3)) _ _ rfl b0
      have b2' := dp_keep (KeepT.of t3) _ _ rfl b2
      have t03 := ((t0.trans t1).trans t2).trans t3
      have hz3 : upd (upd (upd (upd H8 z0 (.tup [])) z1 (.tup [.str "key"])) z2 (.tup [.str "cell", .str t, .ref z1, .str "in"])) z3 (.tup [.str o, .str t, .ref z0, .ref z2, v5]) z3 = some (.tup [.str o, .str t, .ref z0, .ref z2, v5]) := upd_same
      clear t0 t1 t2 t3 b0 b1 b2 m0 m1 m2 m3
      revert b0' b2' t03 hz3
      generalize upd (upd (upd (upd H8 z0 (.tup [])) z1 (.tup [.str "key"])) z2 (.tup [.str "cell", .str t, .ref z1, .str "in"])) z3 (.tup [.str o, .str t, .ref z0, .ref z2, v5]) = H9
      intro b0' b2' t03 hz3
      have p29 := dp_keep (KeepT.of t03) _ _ f2.flat p28
      have p39 := dp_keep (KeepT.of t03) _ _ f3.flat p38
      have p59 := dp_keep (KeepT.of t03) _ _ f5.flat p58
      have k09 := k08.trans (Keep.of t03)
      have D9 := D8.same t03
      refine ⟨.ref z3, rfl, fun pd npd => ⟨Nat.zero_le _, fun y0 j0 => ⟨v3, rfl, h1000 (show 1 ≤ 1000 by decide), fun y1 j1 => ⟨v3, rfl, v2, rfl, h1000 (show 2 ≤ 1000 by decide), fun y2 j2 => ⟨v2, rfl, h1000 (show 1 ≤ 1000 by decide), fun y3 j3 => ?_⟩⟩⟩⟩⟩
      have r0 := same_upd (o := .dK []) npd
      have r1 := same_upd (o := .tup []) j0
      have r2 := same_upd (o := .tup [v3]) j1
      have r3 := same_upd (o := .tup [v3, v2]) j2
      have r4 := same_upd (o := .tup [v2]) j3
      have r14 := ((r1.trans r2).trans r3).trans r4
      have hpd := r14 _ _ (show upd H9 pd (.dK []) pd = _ from upd_same)
      have a0 := ((r2.trans r3).trans r4) _ _ (show upd (upd H9 pd (.dK [])) y0 (.tup []) y0 = _ from upd_same)
      have a1 := (r3.trans r4) _ _ (show upd (upd (upd H9 pd (.dK [])) y0 (.tup [])) y1 (.tup [v3]) y1 = _ from upd_same)
      have a2 := r4 _ _ (show upd (upd (upd (upd H9 pd (.dK [])) y0 (.tup [])) y1 (.tup [v3])) y2 (.tup [v3, v2]) y2 = _ from upd_same)
      have a3 : upd (upd (upd (upd (upd H9 pd (.dK [])) y0 (.tup [])) y1 (.tup [v3])) y2 (.tup [v3, v2])) y3 (.tup [v2]) y3 = _ := upd_same
      have r04 := r0.trans r14
      clear r0 r1 r2 r3 r4 r14 j0 j1 j2 j3
      revert hpd a0 a1 a2 a3 r04
      generalize upd (upd (upd (upd (upd H9 pd (.dK [])) y0 (.tup [])) y1 (.tup [v3])) y2 (.tup [v3, v2])) y3 (.tup [v2]) = H10
      intro hpd a0 a1 a2 a3 r04
      have r05 : Same H9 (upd H10 pd (.dK (mergeK [] (kv4 y0 y1 y2 y3)))) := fun b ob e => by
        rw [upd_ne (ne_of_none e npd)]
        exact r04 _ _ e
      have tu : ∀ (b : Addr) (xs : List V), H10 b = some (.tup xs) → upd H10 pd (.dK (mergeK [] (kv4 y0 y1 y2 y3))) b = some (.tup xs) := fun b xs e => by
        rw [upd_ne (ne_of e hpd (fun z => by cases z))]
        exact e
      have hpd2 : upd H10 pd (.dK (mergeK [] (kv4 y0 y1 y2 y3))) pd = some (.dK (mergeK [] (kv4 y0 y1 y2 y3))) := upd_same
      have a0' := tu _ _ a0
      have a1' := tu _ _ a1
      have a2' := tu _ _ a2
      have a3' := tu _ _ a3
      refine ⟨hpd, kv4 y0 y1 y2 y3, rfl, (show 4 ≤ 15 by decide), .str o, rfl, ?_⟩
      clear tu a0 a1 a2 a3 r04
      revert r05 hpd2 a0' a1' a2' a3'
      generalize upd H10 pd (.dK (mergeK [] (kv4 y0 y1 y2 y3))) = H11
      intro r05 hpd2 a0' a1' a2' a3'
      have z11 := r05 _ _ hz3
      have q0 := dp_keep (KeepT.of r05) _ _ rfl b0'
      have q2 := dp_keep (KeepT.of r05) _ _ rfl b2'
      have q5 := dp_keep (KeepT.of r05) _ _ f5.flat p59
      have q3 := dp_keep (KeepT.of r05) _ _ f3.flat p39
      have q2' := dp_keep (KeepT.of r05) _ _ f2.flat p29
      have k11 := k09.trans (Keep.of r05)
      have D11 := D9.same r05
      obtain ⟨yo, vs, ds, L, va, da, hval, hyo, hds, hfs, hL, hvl, hsp, hak, hva, hda⟩ : ∃ (yo : Addr) (vs : List V) (ds : List PyData) (L : Nat) (va da : List PyData), valV (mergeK [] (kv4 y0 y1 y2 y3)) (.inr o) = some (.ref yo) ∧ H11 yo = some (.tup vs) ∧ DpAll K H11 vs ds ∧ Fines (m + 3) L ds ∧ L ≤ 2 * em m ∧ vs.length ≤ 2 ∧ ds = va ++ da ∧ (o, va.length, da.length) ∈ aggk ∧ (∀ x, x ∈ va → Cx (nmx loose ts cs) scope true (m + 2) x) ∧ (∀ x, x ∈ da → Cx (nmx loose ts cs) scope (decide (0 < loose)) (m + 2) x) := by
        rcases ho4 with rfl | rfl | rfl | rfl
        · exact ⟨y0, [], [], 0, [], [], kv4_1 _ _ _ _, a0', .nil, .nil, Nat.zero_le _, Nat.zero_le _, rfl, by decide, (fun x hx => (nomatch hx)), (fun x hx => (nomatch hx))⟩
        · exact ⟨y1, _, [x3], _, [x3], [], kv4_2 _ _ _ _, a1', .cons q3 .nil, .cons f3 .nil, by omega, (show 1 ≤ 2 by decide), rfl, (show (("sum" : Str), 1, 0) ∈ aggk by decide), (fun x hx => by rw [List.mem_singleton.mp hx]; exact c3t), (fun x hx => (nomatch hx))⟩
        · exact ⟨y2, _, [x3, x2], _, [x3], [x2], kv4_3 _ _ _ _, a2', .cons q3 (.cons q2' .nil), .cons f3 (.cons f2 .nil), by omega, Nat.le_refl _, rfl, (show (("most" : Str), 1, 1) ∈ aggk by decide), (fun x hx => by rw [List.mem_singleton.mp hx]; exact c3t), (fun x hx => by rw [List.mem_singleton.mp hx]; exact c2)⟩
        · exact ⟨y3, _, [x2], _, [], [x2], kv4_4 _ _ _ _, a3', .cons q2' .nil, .cons f2 .nil, by omega, (show 1 ≤ 2 by decide), rfl, (show (("first" : Str), 0, 1) ∈ aggk by decide), (fun x hx => (nomatch hx)), (fun x hx => by rw [List.mem_singleton.mp hx]; exact c2)⟩
      have c5f : Cx (nmx loose ts cs) scope true (m + 2) x5 := by
        have := c5.free
        rw [nmx_one hne hl2] at this
        exact this
      have hin : ("#" : Str) ∈ nmx loose ts cs := List.mem_cons_of_mem _ (List.mem_append_right _ (List.mem_append_right _ (hmk ▸ mark_in)))
      have CA := Cx.agg (zs := nmx loose ts cs) (sc := scope) (decide (0 < loose)) (m + 2) o t x5 [] va da hin (by omega) hak ⟨List.mem_cons_of_mem _ (List.mem_append_left _ ht), nm_hash (W.at' t ht)⟩ (Nat.zero_le _) (fun x hx => (nomatch hx)) c5f hva hda
      refine ⟨pd, .ref yo, rfl, by rw [← hval]; exact DGet.k (k := .inr o) hpd2, ?_⟩
      have fX : Fine 2 121 (.tuple [.str "cell", .str t, .tuple [.str "key"], .str "in"]) := ((Fines.cons (Fine.word (w := "cell") (by decide)).k0 (.cons ft.k0 (.cons fine_key (.cons (Fine.word (w := "in") (by decide)).k0 .nil)))).tup).mono (Nat.le_refl _) (by decide)
      have fE : Fine 1 5 (.tuple []) := (Fines.nil (k := 0)).tup
      have FS : Fines (m + 3) (9 + (84 + (5 + (121 + (em m + 0))))) [.str o, .str t, .tuple [], .tuple [.str "cell", .str t, .tuple [.str "key"], .str "in"], x5] := .cons (Fine.word ho).k0 (.cons ft.k0 (.cons (fE.mono (by omega) (Nat.le_refl _)) (.cons (fX.mono (by omega) (Nat.le_refl _)) (.cons f5 .nil))))
      have FA := (FS.append hfs).tup
      have dS : DpAll K H11 [.str o, .str t, .ref z0, .ref z2, v5] [.str o, .str t, .tuple [], .tuple [.str "cell", .str t, .tuple [.str "key"], .str "in"], x5] := .cons (.str _) (.cons (.str _) (.cons q0 (.cons q2 (.cons q5 .nil))))
      refine ⟨z3, yo, _, _, rfl, rfl, .inl (.inl z11), .inl (.inl hyo), List.cons_ne_nil _ _, h1000 (show 5 + vs.length ≤ 1000 by omega), fun e => ?_, fun _ p np => ?_⟩
      · obtain rfl : ds = [] := by
          rw [e] at hds
          cases hds
          rfl
        rw [List.append_nil] at FA
        rw [← hsp] at CA
        exact q _ _ _ k11 (D11.mono (by omega)) (FA.mono (by omega) (by omega)) CA (.tup (.inl (.inl z11)) dS)
      · have s12 := same_upd (o := .tup ([.str o, .str t, .ref z0, .ref z2, v5] ++ vs)) np
        have hfA := FA.flat
        rw [flatD] at hfA
        rw [← hsp] at CA
        exact q _ _ _ (k11.trans (Keep.of s12)) ((D11.same s12).mono (by omega)) (FA.mono (by omega) (by omega)) CA (new_tup (dpAll_append dS hds) hfA np)
end
end L19

namespace L19
open PySem PySem.Spec PyProof.Rows L2 GR
section
variable {P : Program} {w : World} {K : PySem.W.Frag} {mg : Str → Option Value} {base : Heap}
theorem ok_none {k : Nat} {f : Addr} {fd : FuncData} {ps : List Str} {sp : Sp} (h : ∀ vs H Q E, ¬ sp vs H Q E) : FnOk P w K mg base CX0 k f fd ps sp :=
  ⟨fun vs H Q E q => absurd q (h vs H Q E), fun A outer s H args us vs Q E hr he hb hv hs => absurd hs (h vs H Q E)⟩
theorem ok_exprs {f f_law_draw f_law_pick : Addr} {fd fd_law_draw fd_law_pick : FuncData} {k : Nat} (F : Fun K "_law_expression" "_law_expression" s_law_expression f fd) (G_law_draw : FnOk P w K mg base CX0 k f_law_draw fd_law_draw ["_law_deck_here", "_law_most"] sp_draw)
    (g_law_draw : mg "_law_draw" = some (.ref f_law_draw)) (K_law_draw : PySem.W.keepIn K (.ref f_law_draw) = true) (b_law_draw : Binds K fd_law_draw ["_law_deck_here", "_law_most"] [])
    (G_law_pick : FnOk P w K mg base CX0 k f_law_pick fd_law_pick ["_law_deck_here", "_law_some"] (sp_pick K))
    (g_law_pick : mg "_law_pick" = some (.ref f_law_pick)) (K_law_pick : PySem.W.keepIn K (.ref f_law_pick) = true) (b_law_pick : Binds K fd_law_pick ["_law_deck_here", "_law_some"] [])
    (g : mg "_law_expression" = some (.ref f)) (Kf : PySem.W.keepIn K (.ref f) = true) (b : Binds K fd ps_ex [])
    (mint : mg "int" = none) (mmax : mg "max" = none) : ∀ n : Nat, FnOk P w K mg base CX0 (k + n + 1) f fd ps_ex (sp_expr K n)
  | 0 => ok_expr_step (k := k) F G_law_draw g_law_draw K_law_draw b_law_draw G_law_pick g_law_pick K_law_pick b_law_pick (ok_none fun vs H Q E ⟨m, h, _⟩ => by omega) g Kf b mint mmax
  | n + 1 => by
    have ih := ok_exprs F G_law_draw g_law_draw K_law_draw b_law_draw G_law_pick g_law_pick K_law_pick b_law_pick g Kf b mint mmax n
    refine ok_expr_step (k := k + n + 1) F (G_law_draw.mono (by omega)) g_law_draw K_law_draw b_law_draw (G_law_pick.mono (by omega)) g_law_pick K_law_pick b_law_pick (ih.imp ?_) g Kf b mint mmax
    rintro vs H Q E ⟨m, hm, h⟩
    obtain rfl : n = m := by omega
    exact h
/-! ### statements -/
/-- the table and column that a statement writes to; whether it is a let -/
def colD : PyData → Option (Str × Str)
  | .tuple [.str w, .str t, _, .str z, _] => if w = "put" ∨ w = "each" then some (t, z) else none
  | _ => none
def isLet : PyData → Bool
  | .tuple (.str w :: _) => decide (w = "let")
  | _ => false
/-- the form of a statement: its word, the next thing, the others -/
def SF (w : Str) (v1 : V) (vs : List V) (x : PyData) : Prop := (w = "let" ∧ isLet x = true ∧ colD x = none ∧ ∃ z e, v1 = .str z ∧ Nm z ∧ vs = [e]) ∨ ((w = "need" ∨ w = "tell") ∧ isLet x = false ∧ colD x = none ∧ vs = []) ∨
  ((w = "put" ∨ w = "each") ∧ isLet x = false ∧ ∃ t e z f, v1 = .str t ∧ vs = [e, .str z, f] ∧ colD x = some (t, z) ∧ Nm t ∧ Nm z)
theorem isLet_t {w : Str} {ds : List PyData} (h : w = "let") : isLet (.tuple (.str w :: ds)) = true := decide_eq_true h
theorem isLet_f {w : Str} {ds : List PyData} (h : w ≠ "let") : isLet (.tuple (.str w :: ds)) = false := decide_eq_false h
theorem colD_p {w t z : Str} {x y : PyData} (h : w = "put" ∨ w = "each") : colD (.tuple [.str w, .str t, x, .str z, y]) = some (t, z) := if_pos h
theorem colD_2 {w : Str} : ∀ x : PyData, colD (.tuple [.str w, x]) = none := fun x => by cases x <;> rfl
theorem SF.let' {w : Str} {v1 : V} {vs : List V} {x : PyData} (h : SF w v1 vs x) (e : w = "let") : ∃ z, v1 = .str z ∧ Nm z := by
  subst e
  rcases h with ⟨_, _, _, z, _, h1, h2, _⟩ | ⟨h, _⟩ | ⟨h, _⟩
  · exact ⟨z, h1, h2⟩
  · rcases h with h | h <;> exact absurd h (by decide)
  · rcases h with h | h <;> exact absurd h (by decide)
/-- a statement by its expressions; sc: the variables that are let ahead of it -/
inductive StX (ts cs sc : List Str) : PyData → Prop
  | let_ (z : Str) (x : PyData) : Nm z → z ∉ sc → Cx (nmx 0 ts cs) sc false 5 x → StX ts cs sc (.tuple [.str "let", .str z, x])
  | need (x : PyData) : Cx (nmx 0 ts cs) sc false 5 x → StX ts cs sc (.tuple [.str "need", .tuple [.str "<", .tuple [.str "int", .int (0 - 3)], x]])
  | tell (x : PyData) : Cx (nmx 0 ts cs) sc false 5 x → StX ts cs sc (.tuple [.str "tell", x])
  | each (t z : Str) (x y : PyData) : t ∈ ts → z ∈ cs → Cx (nmx 2 ts cs) sc true 5 x → Cx (nmx 2 ts cs) sc true 5 y → StX ts cs sc (.tuple [.str "each", .str t, x, .str z, y])
  | put (t z : Str) (x y : PyData) : t ∈ ts → (z ∈ cs ∨ z = "in") → Cx (nmx 0 ts cs) sc false 5 x → Cx (nmx 0 ts cs) sc false 5 y → StX ts cs sc (.tuple [.str "put", .str t, x, .str z, y])
/-- the variable that a statement lets -/
def letNm : PyData → Option Str
  | .tuple (.str w :: .str z :: _) => if w = "let" then some z else none
  | _ => none
theorem letNm_no {w : Str} {r : List PyData} (h : w ≠ "let") : letNm (.tuple (.str w :: r)) = none := by
  cases r with
  | nil => rfl
  | cons a r => cases a <;> first | rfl | exact if_neg h
/-- the object of a let -/
def LetH (H : Hp) (v : V) (x : PyData) : Prop := ∀ z, letNm x = some z → ∃ (p : Addr) (e : V), v = .ref p ∧ H p = some (.tup [.str "let", .str z, e])
theorem LetH.no {H : Hp} {v : V} {x : PyData} (h : letNm x = none) : LetH H v x := fun z e => by rw [h] at e; cases e
theorem LetH.keep {H H' : Hp} {v : V} {x : PyData} (h : LetH H v x) (k : KeepT H H') : LetH H' v x := fun z e => by
  obtain ⟨p, u, h1, h2⟩ := h z e
  exact ⟨p, u, h1, k.1 _ _ h2⟩
theorem in_strs (z : Str) (W : List Str) : inV (.str z) (W.map V.str) = decide (z ∈ W) := by
  unfold inV
  rw [List.any_map, Bool.eq_iff_iff, List.any_eq_true, decide_eq_true_eq]
  constructor
  · rintro ⟨f, hf, e⟩
    have : z = f := by
      have e' : eqV (.str f) (.str z) = true := e
      simp [eqV] at e'
      exact e'.symm
    rw [this]
    exact hf
  · intro h
    exact ⟨z, h, by show eqV (.str z) (.str z) = true; simp [eqV]⟩
/-- a statement: a tuple of one of these forms -/
def SV0 (K : PySem.W.Frag) (H : Hp) (v : V) (x : PyData) : Prop := ∃ (p : Addr) (w : Str) (v1 : V) (vs : List V), v = .ref p ∧ H p = some (.tup (.str w :: v1 :: vs)) ∧ SF w v1 vs x ∧ Dp K H v x ∧ Fine 8 12000 x
theorem SV0.keep {K : PySem.W.Frag} {H H' : Hp} {v : V} {x : PyData} (h : SV0 K H v x) (k : KeepT H H') : SV0 K H' v x := by
  obtain ⟨p, w, v1, vs, rfl, h1, h2, h3, h4⟩ := h
  exact ⟨p, w, v1, vs, rfl, k.1 _ _ h1, h2, dp_keep k _ _ h4.flat h3, h4⟩
abbrev s_law_statement : Stmt := topS 31
abbrev N_st : List Str := ["_law_deck_here", "_law_world_here", "_law_scope", "_law_deep", "_law_way", "_law_table", "_law_column", "_law_left", "_law_one", "_law_inner", "_law_name"]
abbrev ps_st : List Str := ["_law_deck_here", "_law_world_here", "_law_scope", "_law_deep"]
theorem sc_law_statement : FnScope N_st ps_st (defScope s_law_statement) := ⟨rfl, rfl, rfl, by decide +kernel, rfl, by decide +kernel, by decide +kernel⟩
def sp_stmt (K : PySem.W.Frag) : Sp := fun vs H Q _ => ∃ (d c u tl cl nl sc : Addr) (N deep : Int) (ts cs ns scope : List Str), vs = [.ref d, .ref u, .ref sc, .int deep] ∧ deep ≤ 3 ∧ Deck H d c N ∧ N < 2 ^ 53 ∧ Wd H d c u tl cl nl ts cs ns ∧ Scp H d c sc scope ∧
  ∀ H' v x, Keep d c H H' → Deck H' d c (N + 20000) → SV0 K H' v x → StX ts cs scope x → LetH H' v x → Q v H'
theorem nm_ok {z : Str} (h : Nm z) : PyData.strOk z = true := so_iff.mpr fun c hc => Nat.lt_of_le_of_lt (h.2.2.1 c hc).2 (by decide)
theorem dp_strs {K : PySem.W.Frag} {H : Hp} : ∀ zs : List Str, DpAll K H (zs.map V.str) (zs.map PyData.str)
  | [] => .nil
  | z :: zs => .cons (.str z) (dp_strs zs)
theorem shaped_strs {zs : List Str} (h : ∀ z, z ∈ zs → Nm z) : SeqAt.shaped (.list (zs.map PyData.str)) = true := by
  have h1 : PyData.canLayAll0 (zs.map PyData.str) = true := by
    induction zs with
    | nil => simp only [List.map_nil, PyData.canLayAll0]
    | cons z zs ih => simp only [List.map_cons, PyData.canLayAll0, PyData.canLay0, nm_ok (h z List.mem_cons_self), ih fun y hy => h y (List.mem_cons_of_mem _ hy), Bool.and_self]
  have h2 : PyData.depthAll (zs.map PyData.str) ≤ 1 := by
    clear h h1
    induction zs with
    | nil => simp only [List.map_nil, PyData.depthAll]; omega
    | cons z zs ih =>
      simp only [List.map_cons, PyData.depthAll, PyData.depth]
      omega
  unfold SeqAt.shaped
  rw [Bool.and_eq_true]
  refine ⟨by simp only [PyData.canLay0, h1], decide_eq_true ?_⟩
  simp only [PyData.depth]
  omega
theorem neq_nilS : ∀ zs : List Str, (!PyData.eqv (.list (zs.map PyData.str)) (.list [])) = !zs.isEmpty
  | [] => by simp only [List.map_nil, PyData.eqv, PyData.eqvAll, List.isEmpty_nil]
  | n :: ns => by simp only [List.map_cons, PyData.eqv, PyData.eqvAll, List.isEmpty_cons]
theorem flat_map_str (zs : List Str) : (zs.map V.str).all flatV = true := by
  rw [List.all_eq_true]
  intro v hv
  obtain ⟨z, _, rfl⟩ := List.mem_map.mp hv
  rfl
theorem ok_stmt {f f_law_draw f_law_pick f_ex : Addr} {fd fd_law_draw fd_law_pick d_ex : FuncData} {k : Nat} (F : Fun K "_law_statement" "_law_statement" s_law_statement f fd) (G_law_draw : FnOk P w K mg base CX0 k f_law_draw fd_law_draw ["_law_deck_here", "_law_most"] sp_draw)
    (g_law_draw : mg "_law_draw" = some (.ref f_law_draw)) (K_law_draw : PySem.W.keepIn K (.ref f_law_draw) = true) (b_law_draw : Binds K fd_law_draw ["_law_deck_here", "_law_most"] [])
    (G_law_pick : FnOk P w K mg base CX0 k f_law_pick fd_law_pick ["_law_deck_here", "_law_some"] (sp_pick K))
    (g_law_pick : mg "_law_pick" = some (.ref f_law_pick)) (K_law_pick : PySem.W.keepIn K (.ref f_law_pick) = true) (b_law_pick : Binds K fd_law_pick ["_law_deck_here", "_law_some"] [])
    (G : FnOk P w K mg base CX0 k f_ex d_ex ps_ex (sp_expr K 3)) (g : mg "_law_expression" = some (.ref f_ex)) (Kf : PySem.W.keepIn K (.ref f_ex) = true) (b : Binds K d_ex ps_ex []) : FnOk P w K mg base CX0 (k + 1) f fd ps_st (sp_stmt K) := by
  have nd := sc_law_statement.nd
  refine F.ok sc_law_statement (fun vs H Q E h => ?_) (fun cdv A outer s H vs Q E hr h => ?_)
  · obtain ⟨d, c, u, tl, cl, nl, sc, N, deep, ts, cs, ns, scope, rfl, _⟩ := h
    rfl
  obtain ⟨d, c, u, tl, cl, nl, sc, N, deep, ts, cs, ns, scope, rfl, hdeep, D, hN, W, S, q⟩ := h
  have hu1 : (A.deeper (envOfC "_law_statement" (defScope s_law_statement) s.heap.objs.size f cdv)).units + 1 < cLine := by
    have := hr.units
    omega
  refine ⟨_, (pss_cons (ps_set (i := 4) nd rfl (.inl rfl) (pe_call G_law_draw hr (by rfl) g_law_draw K_law_draw b_law_draw .nil pass0 (pa_cons (pv 0) (pa_cons pe_int pa_nil))))
      (pss_cons (ps_par (i := 5) (j := 6) rfl nd rfl rfl (by decide) rfl rfl (pa_cons (pe_call G_law_pick hr (by rfl) g_law_pick K_law_pick b_law_pick .nil pass0 (pa_cons (pv 0) (pa_cons (pe_dget hu1 (pv 1) pe_str noSl_str) pa_nil))) (pa_cons (pe_call G_law_pick hr (by rfl) g_law_pick K_law_pick b_law_pick .nil pass0 (pa_cons (pv 0) (pa_cons (pe_dget hu1 (pv 1) pe_str noSl_str) pa_nil))) pa_nil)) (by rfl))
      (pss_cons (ps_setLc (i := 7) (own := [("_law_name", 10)]) (tt := tTest (tOp (rIn K true) (tVar 10) (tVar 2))) (te := tVar 10) rfl nd rfl rfl (sw_true rfl rfl rfl (by decide +kernel)) (pi_list (pe_dget hu1 (pv 1) pe_str noSl_str)) (blkOk_by (N := N_st) (sc := defScope s_law_statement) (by decide +kernel)) (fun _ _ _ _ _ => (pg_name (i := 10) nd rfl (Or.inl rfl))) (fun _ _ _ _ _ => (pts_one (pt_cmpR op_notIn_seq (pv 10) (pv 2) (by rfl)))) (fun _ _ _ _ _ => (pv 10)))
      (pss_cons (ps_set (i := 8) nd rfl (.inl rfl) (pe_call G hr (by rfl) g Kf b .nil pass0 (pa_cons (pv 0) (pa_cons (pv 1) (pa_cons (pv 3) (pa_cons (pv 2) (pa_cons pe_int pa_nil)))))))
      (Evl.pss_cut (ps_if (PW.pt (pw_and (pt_cmpR op_lt (pv 4) pe_int (nomark _)) (pw_and1 (pt_cmpR (op_neD hr.units) (pv 7) (pe_lst pa_nil) (nomark _)))))
      (pss_one (ps_ret (pe_tup (pa_cons pe_str (pa_cons (pe_ix ix_list (pv 7) pe_int (fun _ _ => rfl)) (pa_cons (pv 8) pa_nil))))))
      pss_nil)
      (pss_cons (ps_if (pt_cmpR op_lt (pv 4) pe_int (nomark _))
      (pss_one (ps_ret (pe_ix ix_list (pe_lst (pa_cons (pe_tup (pa_cons pe_str (pa_cons (pe_tup (pa_cons pe_str (pa_cons (pe_tup (pa_cons pe_str (pa_cons (pe_op op_sub pe_int pe_int) pa_nil))) (pa_cons (pv 8) pa_nil)))) pa_nil))) (pa_cons (pe_tup (pa_cons pe_str (pa_cons (pv 8) pa_nil))) pa_nil))) (pe_op op_mod (pv 4) pe_int) (fun _ _ => rfl))))
      pss_nil)
      (pss_cons (ps_if (pt_cmpR op_lt (pv 4) pe_int (nomark _))
      (pss_cons (ps_set (i := 9) nd rfl (.inl rfl) (pe_call G hr (by rfl) g Kf b .nil pass0 (pa_cons (pv 0) (pa_cons (pv 1) (pa_cons (pv 3) (pa_cons (pv 2) (pa_cons pe_int pa_nil)))))))
        (pss_one (ps_ret (pe_tup (pa_cons pe_str (pa_cons (pv 5) (pa_cons (pv 9) (pa_cons (pv 6) (pa_cons (pe_call G hr (by rfl) g Kf b .nil pass0 (pa_cons (pv 0) (pa_cons (pv 1) (pa_cons (pv 3) (pa_cons (pv 2) (pa_cons pe_int pa_nil)))))) pa_nil)))))))))
      pss_nil)
      (pss_cons (ps_if (pt_cmpR op_lt (pv 4) pe_int (nomark _))
      (pss_one (ps_ret (pe_tup (pa_cons pe_str (pa_cons (pv 5) (pa_cons (pe_call G hr (by rfl) g Kf b .nil pass0 (pa_cons (pv 0) (pa_cons (pv 1) (pa_cons pe_int (pa_cons (pv 2) (pa_cons pe_int pa_nil)))))) (pa_cons pe_str (pa_cons (pe_tup (pa_cons pe_str (pa_cons (pe_call G_law_draw hr (by rfl) g_law_draw K_law_draw b_law_draw .nil pass0 (pa_cons (pv 0) (pa_cons pe_int pa_nil))) pa_nil))) pa_nil))))))))
      pss_nil)
      (pss_one (ps_ret (pe_tup (pa_cons pe_str (pa_cons (pv 5) (pa_cons (pe_call G hr (by rfl) g Kf b .nil pass0 (pa_cons (pv 0) (pa_cons (pv 1) (pa_cons (pe_op op_sub (pv 3) pe_int) (pa_cons (pv 2) (pa_cons pe_int pa_nil)))))) (pa_cons (pv 6) (pa_cons (pv 8) pa_nil)))))))))))))))), ?_⟩
  have hdx : dx 3 = 3450 + 0 := by decide
  have hem : em 3 = 5820 := by decide
  refine ⟨.ref d, rfl, d, c, N, 12, rfl, D, by omega, by decide, by decide, fun H1 way k1 D1 w0 w1 => ?_⟩
  have W1 := W.keep k1
  refine ⟨.ref d, rfl, .ref u, rfl, u, .ref tl, rfl, ?_, .inl ⟨d, c, tl, _, _, rfl, D1, by omega, .inl (.inl W1.ht), ?_, ?_, W1.t0.1, W1.t0.2, fun H2 vt k2 D2 hvt => ?_⟩⟩
  · rw [← wD_t tl cl nl]
    exact DGet.k (k := .inr "tables") W1.dct
  · intro e
    have := congrArg List.length e
    rw [List.length_map, W.lt] at this
    cases this
  · rw [List.length_map, W.lt]
    decide
  obtain ⟨t, ht, rfl⟩ := List.mem_map.mp hvt
  have ft := Fine.str (W.at' t ht)
  have k02 := k1.trans k2
  have W2 := W.keep k02
  refine ⟨.ref d, rfl, .ref u, rfl, u, .ref cl, rfl, ?_, .inl ⟨d, c, cl, _, _, rfl, D2, by omega, .inl (.inl W2.hc), ?_, ?_, W2.c0.1, W2.c0.2, fun H3 vc k3 D3 hvc => ?_⟩⟩
  · rw [← wD_c tl cl nl]
    exact DGet.k (k := .inr "columns") W2.dct
  · intro e
    have := congrArg List.length e
    rw [List.length_map, W.lc] at this
    cases this
  · rw [List.length_map, W.lc]
    decide
  obtain ⟨z, hz, rfl⟩ := List.mem_map.mp hvc
  have fz := Fine.str (W.ac z hz)
  have k03 := k02.trans k3
  have W3 := W.keep k03
  have S3 := S.keep k03
  refine ⟨_, _, rfl, ?_⟩
  -- what is left
  refine ⟨.ref u, rfl, u, .ref nl, rfl, ?_, nl, rfl, ⟨_, .inl (.inl W3.hn)⟩, fun B nB => ?_⟩
  · rw [← wD_n tl cl nl]
    exact DGet.k (k := .inr "names") W3.dct
  have hBd := D3.new nB
  have hBn : nl ≠ B := ne_of_none W3.hn nB
  have hBs : sc ≠ B := ne_of_none S3.at' nB
  refine lc_list (xs := ns.map V.str) (fun i H' => ∃ zs : List Str, H' B = some (.lst (zs.map V.str)) ∧ zs.length ≤ i ∧ (∀ y, y ∈ zs → Nm y ∧ y ∉ scope) ∧ ∀ b ob, b ≠ B → H3 b = some ob → H' b = some ob) ?_ ?_ ?_ ?_
  · exact ⟨[], upd_same, Nat.le_refl _, fun v hv => (nomatch hv), fun b ob nb e => by rw [upd_ne nb]; exact e⟩
  · rintro i H' _ ⟨_, _, _, _, kk⟩
    exact .inl (.inl (kk _ _ hBn W3.hn))
  · rintro i x H4 hx ⟨zs, hB, hl4, hg, kk⟩
    rw [List.getElem?_map] at hx
    obtain ⟨y, hy, rfl⟩ := Option.map_eq_some_iff.mp hx
    have hi : i < ns.length := (List.getElem?_eq_some_iff.mp hy).1
    have hln := W.ln
    refine ⟨rfl, .str y, rfl, .ref sc, rfl, sc, _, rfl, .inl (.inl (.inl (kk _ _ hBs S3.at'))), rfl, flat_map_str _, _, rfl, ?_⟩
    refine ite2 (fun e => ?_) (fun e => ?_)
    · refine ⟨.str y, rfl, _, hB, small1000 (by rw [List.length_map]; omega), zs ++ [y], by rw [List.map_append]; exact upd_same, by rw [List.length_append]; exact Nat.succ_le_succ hl4, fun v hv => ?_, fun b ob nb e => by rw [upd_ne nb]; exact kk b ob nb e⟩
      rcases List.mem_append.mp hv with h | h
      · exact hg v h
      · rw [List.mem_singleton.mp h]
        refine ⟨W.an y (List.mem_of_getElem? hy), fun hm => ?_⟩
        have e2 : (!inV (.str y) (scope.map V.str)) = true := e
        rw [in_strs, decide_eq_true hm] at e2
        cases e2
    · exact ⟨zs, hB, by omega, hg, kk⟩
  · rintro H4 ⟨zs, hB, hl4, hg, kk⟩
    rw [List.length_map, W.ln] at hl4
    have s34 : Same H3 H4 := fun b ob e => kk b ob (ne_of_none e nB) e
    have k04 := k03.trans (Keep.of s34)
    have D4 := D3.same s34
    have ew : ∀ z : Str, Fine 6 9 (.str z) → Fine 6 9 (.str z) := fun z h => h
    refine ⟨.ref d, rfl, .ref u, rfl, .int deep, rfl, .ref sc, rfl, d, c, u, tl, cl, nl, sc, _, deep, 0, ts, cs, ns, scope, rfl, D4, by omega, W.keep k04, S.keep k04, by omega, by decide, by decide, fun H5 v1 x1 k5 D5 f1 c1 p1 => ?_⟩
    rw [hem] at f1
    have k05 := k04.trans k5
    have hB5 := k5 _ _ hBd.1 hBd.2 hB
    have D5' := D5.mono (show N + 1 + 1 + 1 + dx 3 ≤ N + 3500 by omega)
    -- a let
    refine ⟨fun σ' H' => σ' = [some (.ref d), some (.ref u), some (.ref sc), some (.int deep), some (.int way), some (.str t), some (.str z), some (.ref B), some v1, none, none] ∧ Same H5 H', ?_, ?_⟩
    · refine ⟨.int way, rfl, _, _, rfl, rfl, _, rfl, ite2 (fun e1 => ⟨.ref B, rfl, Nat.zero_le _, fun l nl' => ⟨_, _, .lst (.inl (.inl (same_upd nl' _ _ hB5))) (dp_strs zs), .lst (.inl (.inl upd_same)) .nil, shaped_strs fun z h => (hg z h).1, rfl, ?_⟩⟩) (fun e1 => ?_)⟩
      · rw [neq_nilS]
        have sl := same_upd (o := .lst []) nl'
        refine ⟨_, rfl, ite2 (fun e2 => ?_) (fun e2 => ⟨rfl, sl⟩)⟩
        obtain ⟨y, ys, rfl⟩ : ∃ y ys, zs = y :: ys := by
          cases zs with
          | nil => exact absurd e2 (by decide)
          | cons y ys => exact ⟨y, ys, rfl⟩
        have fy := Fine.str ((hg y List.mem_cons_self).1)
        refine ⟨.ref B, rfl, B, _, 0, .str y, rfl, rfl, .inl (.inl (sl _ _ hB5)), at0, v1, rfl, h1000 (show 3 ≤ 1000 by decide), fun p np => ?_⟩
        have s6 := same_upd (o := .tup [.str "let", .str y, v1]) np
        have F := (Fines.cons (Fine.word (w := "let") (by decide)).k0 (.cons fy.k0 (.cons f1 .nil))).tup
        exact q _ _ _ (k05.trans (Keep.of (sl.trans s6))) ((D5'.same (sl.trans s6)).mono (by omega)) ⟨p, "let", .str y, [v1], rfl, upd_same, .inl ⟨rfl, isLet_t rfl, rfl, y, v1, rfl, (hg y List.mem_cons_self).1, rfl⟩, new_tup (.cons (.str _) (.cons (.str _) (.cons (dp_keep (KeepT.of sl) _ _ f1.flat p1) .nil))) (by simp only [flatDs, flatD, f1.flat, Bool.and_self]) np, F.mono (by omega) (by omega)⟩ (.let_ y x1 (hg y List.mem_cons_self).1 (hg y List.mem_cons_self).2 c1) (fun z' e => ⟨p, v1, rfl, by rw [← (Option.some.inj (show some y = some z' from e))]; exact upd_same⟩)
      · exact ⟨rfl, fun _ _ e => e⟩
    rintro σ' H6 ⟨rfl, s56⟩
    have k06 := k05.trans (Keep.of s56)
    have D6 := D5'.same s56
    have p16 := dp_keep (KeepT.of s56) _ _ f1.flat p1
    have W6 := W.keep k06
    have S6 := S.keep k06
    clear hB5 hB kk
    -- a need, a tell
    refine ⟨.int way, rfl, _, _, rfl, rfl, _, rfl, ite2 (fun e1 => ?_) (fun e1 => ?_)⟩
    · refine ⟨_, _, rfl, rfl, h1000 (show 2 ≤ 1000 by decide), fun a1 m1 => ⟨v1, rfl, h1000 (show 3 ≤ 1000 by decide), fun a2 m2 => ⟨h1000 (show 2 ≤ 1000 by decide), fun a3 m3 => ⟨v1, rfl, h1000 (show 2 ≤ 1000 by decide), fun a4 m4 => ⟨h1000 (show 2 ≤ 1000 by decide), fun l ml => ?_⟩⟩⟩⟩⟩
      dsimp only
      have t1 := same_upd (o := .tup [.str "int", .int (0 - 3)]) m1
      have t2 := same_upd (o := .tup [.str "<", .ref a1, v1]) m2
      have t3 := same_upd (o := .tup [.str "need", .ref a2]) m3
      have t4 := same_upd (o := .tup [.str "tell", v1]) m4
      have tl5 := same_upd (o := .lst [.ref a3, .ref a4]) ml
      have b1 := new_tup (K := K) (.cons (.str "int") (.cons (.int (0 - 3)) .nil)) rfl m1
      have b2 := new_tup (K := K) (.cons (.str "<") (.cons b1 (.cons (dp_keep (KeepT.of t1) _ _ f1.flat p16) .nil))) (by simp only [flatDs, flatD, f1.flat, Bool.and_self]) m2
      have b3 := new_tup (K := K) (.cons (.str "need") (.cons b2 .nil)) (by simp only [flatDs, flatD, f1.flat, Bool.and_self]) m3
      have b4 := new_tup (K := K) (.cons (.str "tell") (.cons (dp_keep (KeepT.of (t1.trans (t2.trans t3))) _ _ f1.flat p16) .nil)) (by simp only [flatDs, flatD, f1.flat, Bool.and_self]) m4
      have fi : Fine 1 36 (.tuple [.str "int", .int (0 - 3)]) := (tup2 (by decide) (Fine.int (by decide) (by decide)))
      have F3 := tup2 (w := "need") (by decide) (((Fines.cons (Fine.word (w := "<") (by decide)).k0 (.cons (fi.mono (show 1 ≤ 6 by decide) (Nat.le_refl _)) (.cons f1 .nil))).tup))
      have F4 := tup2 (w := "tell") (by decide) f1
      have hs3 : SV0 K _ (.ref a3) (.tuple [.str "need", .tuple [.str "<", .tuple [.str "int", .int (0 - 3)], x1]]) := ⟨a3, "need", .ref a2, [], rfl, upd_same, .inr (.inl ⟨.inl rfl, isLet_f (by decide), colD_2 _, rfl⟩), b3, F3.mono (by decide) (by decide)⟩
      have hs4 : SV0 K _ (.ref a4) (.tuple [.str "tell", x1]) := ⟨a4, "tell", v1, [], rfl, upd_same, .inr (.inl ⟨.inr rfl, isLet_f (by decide), colD_2 _, rfl⟩), b4, F4.mono (by decide) (by decide)⟩
      have h3 := (hs3.keep (KeepT.of t4)).keep (KeepT.of tl5)
      have h4 := hs4.keep (KeepT.of tl5)
      have t15 := t1.trans (t2.trans (t3.trans (t4.trans tl5)))
      have hl : upd (upd (upd (upd (upd H6 a1 (.tup [.str "int", .int (0 - 3)])) a2 (.tup [.str "<", .ref a1, v1])) a3 (.tup [.str "need", .ref a2])) a4 (.tup [.str "tell", v1])) l (.lst [.ref a3, .ref a4]) l = some (.lst [.ref a3, .ref a4]) := upd_same
      clear t1 t2 t3 t4 tl5 b1 b2 b3 b4 hs3 hs4 m1 m2 m3 m4 ml
      revert h3 h4 t15 hl
      generalize upd (upd (upd (upd (upd H6 a1 (.tup [.str "int", .int (0 - 3)])) a2 (.tup [.str "<", .ref a1, v1])) a3 (.tup [.str "need", .ref a2])) a4 (.tup [.str "tell", v1])) l (.lst [.ref a3, .ref a4]) = H7
      intro h3 h4 t15 hl
      have k07 := k06.trans (Keep.of t15)
      have D7 := (D6.same t15).mono (show N + 3500 ≤ N + 20000 by omega)
      have hw2 : way % 2 = 0 ∨ way % 2 = 1 := by omega
      refine ⟨.int way, rfl, _, _, rfl, rfl, (show (0 : Int) < 2 by decide), ?_⟩
      dsimp only
      rcases hw2 with e2 | e2
      · rw [e2]
        exact ⟨l, _, 0, .ref a3, rfl, rfl, .inl (.inl hl), at0, q _ _ _ k07 D7 h3 (.need x1 c1) (.no (letNm_no (by decide)))⟩
      · rw [e2]
        exact ⟨l, _, 1, .ref a4, rfl, rfl, .inl (.inl hl), at1, q _ _ _ k07 D7 h4 (.tell x1 c1) (.no (letNm_no (by decide)))⟩
    -- an each
    refine ⟨.int way, rfl, _, _, rfl, rfl, _, rfl, ite2 (fun e2 => ?_) (fun e2 => ?_)⟩
    · refine ⟨.ref d, rfl, .ref u, rfl, .int deep, rfl, .ref sc, rfl, d, c, u, tl, cl, nl, sc, _, deep, 2, ts, cs, ns, scope, rfl, D6, by omega, W6, S6, by omega, by decide, by decide, fun H7 v2 x2 k7 D7 f2 c2 p2 => ?_⟩
      have k07 := k06.trans k7
      rw [hem] at f2
      refine ⟨.str t, rfl, v2, rfl, .str z, rfl, .ref d, rfl, .ref u, rfl, .int deep, rfl, .ref sc, rfl, d, c, u, tl, cl, nl, sc, _, deep, 2, ts, cs, ns, scope, rfl, D7, by omega, W.keep k07, S.keep k07, by omega, by decide, by decide, fun H8 v3 x3 k8 D8 f3 c3 p3 => ⟨h1000 (show 5 ≤ 1000 by decide), fun p np => ?_⟩⟩
      rw [hem] at f3
      have s9 := same_upd (o := .tup [.str "each", .str t, v2, .str z, v3]) np
      have F := (Fines.cons (Fine.word (w := "each") (by decide)).k0 (.cons ft.k0 (.cons f2 (.cons fz.k0 (.cons f3 .nil))))).tup
      exact q _ _ _ ((k07.trans k8).trans (Keep.of s9)) ((D8.same s9).mono (by omega)) ⟨p, "each", .str t, [v2, .str z, v3], rfl, upd_same, .inr (.inr ⟨.inr rfl, isLet_f (by decide), t, v2, z, v3, rfl, rfl, colD_p (.inr rfl), W.at' t ht, W.ac z hz⟩), new_tup (.cons (.str _) (.cons (.str _) (.cons (dp_keep (k8.t D7) _ _ f2.flat p2) (.cons (.str _) (.cons p3 .nil))))) (by simp only [flatDs, flatD, f2.flat, f3.flat, Bool.and_self]) np, F.mono (by omega) (by omega)⟩ (.each t z x2 x3 ht hz c2 c3) (.no (letNm_no (by decide)))
    -- a put to in
    refine ⟨.int way, rfl, _, _, rfl, rfl, _, rfl, ite2 (fun e3 => ?_) (fun e3 => ?_)⟩
    · refine ⟨.str t, rfl, .ref d, rfl, .ref u, rfl, .ref sc, rfl, d, c, u, tl, cl, nl, sc, _, 0, 0, ts, cs, ns, scope, rfl, D6, by omega, W6, S6, by decide, by decide, by decide, fun H7 v2 x2 k7 D7 f2 c2 p2 => ?_⟩
      have k07 := k06.trans k7
      rw [hem] at f2
      refine ⟨.ref d, rfl, d, c, _, 4, rfl, D7, by omega, by decide, by decide, fun H8 r k8 D8 r0 r1 => ⟨h1000 (show 2 ≤ 1000 by decide), fun p1 np1 => ⟨h1000 (show 5 ≤ 1000 by decide), fun p np => ?_⟩⟩⟩
      have s9 := same_upd (o := .tup [.str "int", .int r]) np1
      have s10 := same_upd (o := .tup [.str "put", .str t, v2, .str "in", .ref p1]) np
      have bi := new_tup (K := K) (.cons (.str "int") (.cons (.int r) .nil)) rfl np1
      have fi : Fine 1 36 (.tuple [.str "int", .int r]) := tup2 (by decide) (Fine.int (by omega) (by omega))
      have F := (Fines.cons (Fine.word (w := "put") (by decide)).k0 (.cons ft.k0 (.cons f2 (.cons (Fine.word (w := "in") (by decide)).k0 (.cons (fi.mono (show 1 ≤ 6 by decide) (Nat.le_refl _)) .nil))))).tup
      exact q _ _ _ ((k07.trans k8).trans (Keep.of (s9.trans s10))) ((D8.same (s9.trans s10)).mono (by omega)) ⟨p, "put", .str t, [v2, .str "in", .ref p1], rfl, upd_same, .inr (.inr ⟨.inl rfl, isLet_f (by decide), t, v2, "in", .ref p1, rfl, rfl, colD_p (.inl rfl), W.at' t ht, in_nm⟩), new_tup (.cons (.str _) (.cons (.str _) (.cons (dp_keep ((k8.t D7).trans (KeepT.of s9)) _ _ f2.flat p2) (.cons (.str _) (.cons bi .nil))))) (by simp only [flatDs, flatD, f2.flat, Bool.and_self]) np, F.mono (by omega) (by omega)⟩ (.put t "in" x2 _ ht (.inr rfl) c2 (.int false 4 r (by omega) (by omega))) (.no (letNm_no (by decide)))
    -- a put
    refine ⟨.str t, rfl, .ref d, rfl, .ref u, rfl, .int deep, rfl, deep, 1, rfl, rfl, .ref sc, rfl, d, c, u, tl, cl, nl, sc, _, _, 0, ts, cs, ns, scope, rfl, D6, by omega, W6, S6, by omega, by decide, by decide, fun H7 v2 x2 k7 D7 f2 c2 p2 => ?_⟩
    rw [hem] at f2
    refine ⟨.str z, rfl, v1, rfl, h1000 (show 5 ≤ 1000 by decide), fun p np => ?_⟩
    have s9 := same_upd (o := .tup [.str "put", .str t, v2, .str z, v1]) np
    have F := (Fines.cons (Fine.word (w := "put") (by decide)).k0 (.cons ft.k0 (.cons f2 (.cons fz.k0 (.cons f1 .nil))))).tup
    exact q _ _ _ ((k06.trans k7).trans (Keep.of s9)) ((D7.same s9).mono (by omega)) ⟨p, "put", .str t, [v2, .str z, v1], rfl, upd_same, .inr (.inr ⟨.inl rfl, isLet_f (by decide), t, v2, z, v1, rfl, rfl, colD_p (.inl rfl), W.at' t ht, W.ac z hz⟩), new_tup (.cons (.str _) (.cons (.str _) (.cons p2 (.cons (.str _) (.cons (dp_keep (k7.t D6) _ _ f1.flat p16) .nil))))) (by simp only [flatDs, flatD, f1.flat, f2.flat, Bool.and_self]) np, F.mono (by omega) (by omega)⟩ (.put t z x2 x1 ht (.inl hz) c2 c1) (.no (letNm_no (by decide)))
end
/-- .. with the object of a let -/
def SV (K : PySem.W.Frag) (H : Hp) (v : V) (x : PyData) : Prop := ∃ (p : Addr) (w : Str) (v1 : V) (vs : List V), v = .ref p ∧ H p = some (.tup (.str w :: v1 :: vs)) ∧ SF w v1 vs x ∧ Dp K H v x ∧ Fine 8 12000 x ∧ LetH H v x ∧ (isLet x = true → ∃ z, letNm x = some z)
theorem SV.mk' {K : PySem.W.Frag} {H : Hp} {v : V} {x : PyData} (h : SV0 K H v x) (l : LetH H v x) (m : isLet x = true → ∃ z, letNm x = some z) : SV K H v x := by
  obtain ⟨p, w, v1, vs, rfl, h1, h2, h3, h4⟩ := h
  exact ⟨p, w, v1, vs, rfl, h1, h2, h3, h4, l, m⟩
theorem SV.keep {K : PySem.W.Frag} {H H' : Hp} {v : V} {x : PyData} (h : SV K H v x) (k : KeepT H H') : SV K H' v x := by
  obtain ⟨p, w, v1, vs, rfl, h1, h2, h3, h4, h5, h6⟩ := h
  exact ⟨p, w, v1, vs, rfl, k.1 _ _ h1, h2, dp_keep k _ _ h4.flat h3, h4, h5.keep k, h6⟩
end L19

namespace L19
open PySem PySem.Spec PyProof.Rows L2 GR
abbrev SVs (K : PySem.W.Frag) (H : Hp) : List V → List PyData → Prop := Paired (SV K H)
theorem svs_keep {K : PySem.W.Frag} {H H' : Hp} (k : KeepT H H') : ∀ {vs : List V} {ds : List PyData}, SVs K H vs ds → SVs K H' vs ds
  | _, _, .nil => .nil
  | _, _, .cons h t => .cons (h.keep k) (svs_keep k t)
theorem svs_append {K : PySem.W.Frag} {H : Hp} : ∀ {vs us : List V} {ds es : List PyData}, SVs K H vs ds → SVs K H us es → SVs K H (vs ++ us) (ds ++ es)
  | _, _, _, _, .nil, h => h
  | _, _, _, _, .cons h t, g => .cons h (svs_append t g)
theorem svs_len {K : PySem.W.Frag} {H : Hp} {vs : List V} {ds : List PyData} (h : SVs K H vs ds) : vs.length = ds.length := Paired.length h
/-- the variables that these statements let -/
def letsD (ds : List PyData) : List Str := ds.filterMap letNm
theorem letsD_append (a b : List PyData) : letsD (a ++ b) = letsD a ++ letsD b := List.filterMap_append ..
/-- each statement sees the lets ahead of it -/
inductive Chain (ts cs : List Str) : List PyData → Prop
  | nil : Chain ts cs []
  | snoc (ds : List PyData) (x : PyData) : Chain ts cs ds → StX ts cs (letsD ds) x → Chain ts cs (ds ++ [x])
theorem StX.let' {ts cs sc : List Str} {x : PyData} (h : StX ts cs sc x) (e : isLet x = true) : ∃ z, letNm x = some z := by
  cases h with
  | let_ z x => exact ⟨z, rfl⟩
  | _ => exact absurd e (by simp only [isLet]; decide)
theorem isLet_no {x : PyData} (h : isLet x = false) : letNm x = none := by
  unfold isLet at h
  split at h
  · exact letNm_no (of_decide_eq_false h)
  · rename_i hx
    unfold letNm
    split
    · exact absurd rfl (hx _ _)
    · rfl
section
variable {P : Program} {w : World} {K : PySem.W.Frag} {mg : Str → Option Value} {base : Heap}
abbrev s_law_transaction : Stmt := topS 32
abbrev N_tr : List Str := ["_law_deck_here", "_law_world_here", "_law_most", "_law_deep", "_law_scope", "_law_found", "_law_k"]
abbrev ps_tr : List Str := ["_law_deck_here", "_law_world_here", "_law_most", "_law_deep"]
theorem sc_law_transaction : FnScope N_tr ps_tr (defScope s_law_transaction) := ⟨rfl, rfl, rfl, by decide +kernel, rfl, by decide +kernel, by decide +kernel⟩
def sp_tran (K : PySem.W.Frag) : Sp := fun vs H Q _ => ∃ (d c u tl cl nl : Addr) (N deep : Int) (many : Nat) (ts cs ns : List Str), vs = [.ref d, .ref u, .int (many : Int), .int deep] ∧ deep ≤ 3 ∧ many ≤ 6 ∧ Deck H d c N ∧ N < 2 ^ 52 ∧ Wd H d c u tl cl nl ts cs ns ∧
  ∀ H' p us ds, Keep d c H H' → Deck H' d c (N + 200000) → H' p = some (.tup us) → SVs K H' us ds → us.length ≤ 6 → Chain ts cs ds → Q (.ref p) H'
theorem ok_tran {f f_law_draw f_st : Addr} {fd fd_law_draw d_st : FuncData} {k : Nat} (F : Fun K "_law_transaction" "_law_transaction" s_law_transaction f fd) (G_law_draw : FnOk P w K mg base CX0 k f_law_draw fd_law_draw ["_law_deck_here", "_law_most"] sp_draw)
    (g_law_draw : mg "_law_draw" = some (.ref f_law_draw)) (K_law_draw : PySem.W.keepIn K (.ref f_law_draw) = true) (b_law_draw : Binds K fd_law_draw ["_law_deck_here", "_law_most"] [])
    (G : FnOk P w K mg base CX0 k f_st d_st ps_st (sp_stmt K)) (g : mg "_law_statement" = some (.ref f_st)) (Kf : PySem.W.keepIn K (.ref f_st) = true) (b : Binds K d_st ps_st []) (mrange : mg "range" = none) (mint : mg "int" = none) (mtuple : mg "tuple" = none) : FnOk P w K mg base CX0 (k + 1) f fd ps_tr (sp_tran K) := by
  have nd := sc_law_transaction.nd
  refine F.ok sc_law_transaction (fun vs H Q E h => ?_) (fun cdv A outer s H vs Q E hr h => ?_)
  · obtain ⟨d, c, u, tl, cl, nl, N, deep, many, ts, cs, ns, rfl, _⟩ := h
    rfl
  obtain ⟨d, c, u, tl, cl, nl, N, deep, many, ts, cs, ns, rfl, hdeep, hmany, D, hN, W, q⟩ := h
  refine ⟨_, (pss_cons (ps_set (i := 4) nd rfl (.inl rfl) (pe_lst pa_nil))
      (pss_cons (ps_set (i := 5) nd rfl (.inl rfl) (pe_lst pa_nil))
      (pss_cons (ps_for PassesOwn.never rfl (pi_range1 rfl mrange (pa_cons (pe_call G_law_draw hr (by rfl) g_law_draw K_law_draw b_law_draw .nil pass0 (pa_cons (pv 0) (pa_cons (pe_op op_add (pv 2) pe_int) pa_nil))) pa_nil)) (pg_name (i := 6) nd rfl (Or.inl rfl))
      (pss_cons (ps_expr (pe_bm PySem.F.plainAttrs_list PySem.F.slot_list_append PySem.F.type_list_append mt_append (pv 5) (pa_cons (pe_call G hr (by rfl) g Kf b .nil pass0 (pa_cons (pv 0) (pa_cons (pv 1) (pa_cons (pv 4) (pa_cons (pv 3) pa_nil))))) pa_nil)))
        (pss_one (ps_set (i := 4) nd rfl (.inl rfl) (pe_op op_cat (pv 4) (pe_op op_rep (pe_lst (pa_cons (pe_ix ix_tup (pe_ix ix_list (pv 5) (pe_un un_neg pe_int) (fun _ _ => rfl)) pe_int (fun _ _ => rfl)) pa_nil)) (pe_callTy call_int1 (by rfl) mint boot_int (pa_cons (pe_cmpR op_eq (pe_ix ix_tup (pe_ix ix_list (pv 5) (pe_un un_neg pe_int) (fun _ _ => rfl)) pe_int (fun _ _ => rfl)) pe_str (nomark _)) pa_nil))))))))
      (pss_one (ps_ret (pe_callTy call_tuple_of (by rfl) mtuple boot_tuple (pa_cons (pv 5) pa_nil))))))), ?_⟩
  refine ⟨Nat.zero_le _, fun sc nsc => ⟨Nat.zero_le _, fun fo nfo => ?_⟩⟩
  have s1 := same_upd (o := .lst []) nsc
  have s2 := same_upd (o := .lst []) nfo
  have hsc := D.new nsc
  have hfo := (D.same s1).new nfo
  have h1 := s2 _ _ (show upd H sc (.lst []) sc = _ from upd_same)
  have h2 : upd (upd H sc (.lst [])) fo (.lst []) fo = some (.lst []) := upd_same
  have nfoH : H fo = none := s1.free nfo
  have hsf : sc ≠ fo := ne_of_none (show upd H sc (.lst []) sc = some (.lst []) from upd_same) nfo
  have s12 := s1.trans s2
  revert h1 h2 s12
  clear s1 s2
  generalize upd (upd H sc (.lst [])) fo (.lst []) = H1
  intro h1 h2 s12
  have D1 := D.same s12
  refine ⟨.ref d, rfl, .int (many : Int), rfl, (many : Int), 1, rfl, rfl, d, c, N, (many : Int) + 1, rfl, D1, by omega, by omega, by omega, fun H2 r k2 D2 r0 r1 => ?_⟩
  obtain ⟨m, rfl⟩ := Int.eq_ofNat_of_zero_le r0
  refine ⟨(m : Int), rfl, by omega, by omega, ?_⟩
  rw [show ((m : Int)).toNat = m by omega]
  refine for_range (n := m) (fun i σ H' => ∃ (sc : Addr) (y6 : Option V) (us : List V) (ds : List PyData) (scope : List Str), σ = [some (.ref d), some (.ref u), some (.int (many : Int)), some (.int deep), some (.ref sc), some (.ref fo), y6] ∧ Keep d c H H' ∧ Deck H' d c (N + 1 + 20000 * (i : Int)) ∧ H' fo = some (.lst us) ∧ SVs K H' us ds ∧ us.length = i ∧ Scp H' d c sc scope ∧ scope.length ≤ i ∧ sc ≠ fo ∧ Chain ts cs ds ∧ letsD ds = scope) ?_ ?_ ?_
  · exact ⟨sc, none, [], [], [], rfl, (Keep.of s12).trans k2, D2.mono (by omega), k2 _ _ hfo.1 hfo.2 h2, .nil, rfl, ⟨k2 _ _ hsc.1 hsc.2 h1, hsc, fun z hz => (nomatch hz), Nat.zero_le _⟩, Nat.zero_le _, hsf, .nil, rfl⟩
  · rintro i σ H3 hi ⟨sc, y6, us, ds, scope, rfl, k3, D3, hf, hs, hl, S, hsl, nsf, hch, hsc'⟩
    refine ⟨.ref fo, rfl, .inl ⟨rfl, us, .inl (.inl hf)⟩, .ref d, rfl, .ref u, rfl, .ref sc, rfl, .int deep, rfl, d, c, u, tl, cl, nl, sc, _, deep, ts, cs, ns, scope, rfl, hdeep, D3, by omega, W.keep k3, S, fun H4 v x k4 D4 sv sx lh => ?_⟩
    have sv := SV.mk' sv lh sx.let'
    have hf4 := k4 _ _ hfo.1 hfo.2 hf
    have S4 := S.keep k4
    have hs4 := svs_keep (k4.t D3) hs
    refine ⟨fo, us, v, rfl, rfl, hf4, small1000 (by omega), ?_⟩
    have kf : KeepT H4 (upd H4 fo (.lst (us ++ [v]))) := KeepT.lst hf4
    have hf5 : upd H4 fo (.lst (us ++ [v])) fo = some (.lst (us ++ [v])) := upd_same
    have hs5 := svs_append (svs_keep kf hs4) (.cons (sv.keep kf) .nil)
    have sv5 := sv.keep kf
    have lh5 := lh.keep kf
    have D5 := D4.upd (o := .lst (us ++ [v])) hfo.1 hfo.2
    have k5 : Keep d c H (upd H4 fo (.lst (us ++ [v]))) := fun b o n1 n2 e => by
      rw [upd_ne (ne_of_none e nfoH)]
      exact k4 _ _ n1 n2 (k3 _ _ n1 n2 e)
    have hsc5 : upd H4 fo (.lst (us ++ [v])) sc = some (.lst (scope.map V.str)) := by
      rw [upd_ne nsf]
      exact S4.at'
    revert hf5 hs5 sv5 lh5 D5 k5 hsc5
    generalize upd H4 fo (.lst (us ++ [v])) = H5
    intro hf5 hs5 sv5 lh5 D5 k5 hsc5
    obtain ⟨p, w', v1, vs, rfl, hp, hsf, hdp, hfin⟩ := id sv5
    have hlet := hsf.let'
    refine ⟨.ref sc, rfl, .ref fo, rfl, 1, rfl, fo, _, -1, .ref p, rfl, rfl, .inl (.inl hf5), atI_last _ _, p, _, 1, v1, rfl, rfl, .inl (.inl hp), at1, h1000 (show 1 ≤ 1000 by decide), fun l1 nl1 => ?_⟩
    have s6 := same_upd (o := .lst [v1]) nl1
    have hl1 : upd H5 l1 (.lst [v1]) l1 = some (.lst [v1]) := upd_same
    revert s6 hl1
    generalize upd H5 l1 (.lst [v1]) = H6
    intro s6 hl1
    refine ⟨.ref fo, rfl, 1, rfl, fo, _, -1, .ref p, rfl, rfl, .inl (.inl (s6 _ _ hf5)), atI_last _ _, p, _, 0, .str w', rfl, rfl, .inl (.inl (s6 _ _ hp)), at0, rfl, .inr ⟨_, rfl, ?_⟩⟩
    refine ⟨l1, _, [v1], rfl, rfl, hl1, ?_, ?_, ?_, fun l2 nl2 => ?_⟩
    · split <;> decide
    · split <;> decide
    · split
      · exact h1000 (show 1 * 1 ≤ 1000 by decide)
      · exact h1000 (show 1 * 0 ≤ 1000 by decide)
    obtain ⟨more, hmore, hm1, hmn, hml⟩ : ∃ more : List Str, (List.replicate (if decide (V.str w' = V.str "let") = true then 1 else 0 : Int).toNat [v1]).flatten = more.map V.str ∧ more.length ≤ 1 ∧ (∀ z, z ∈ more → Nm z) ∧ letsD [x] = more := by
      by_cases e : V.str w' = V.str "let"
      · obtain ⟨z, rfl, hz⟩ := hlet (V.str.inj e)
        rw [decide_eq_true e]
        have hil : isLet x = true := by
          rcases hsf with ⟨_, h, _⟩ | ⟨h, _⟩ | ⟨h, _⟩
          · exact h
          · rcases h with h | h <;> exact absurd ((V.str.inj e).symm.trans h) (by decide)
          · rcases h with h | h <;> exact absurd ((V.str.inj e).symm.trans h) (by decide)
        obtain ⟨z', hz'⟩ := sx.let' hil
        obtain ⟨p', e', q1, q2⟩ := lh5 z' hz'
        cases q1
        rw [hp] at q2
        have q3 : V.str z = V.str z' := (List.cons.inj (List.cons.inj (HO.tup.inj (Option.some.inj q2))).2).1
        exact ⟨[z], rfl, Nat.le_refl _, fun y hy => by rw [List.mem_singleton.mp hy]; exact hz, by show [x].filterMap letNm = [z]; rw [List.filterMap_cons, hz', V.str.inj q3]; rfl⟩
      · rw [decide_eq_false e]
        have hil : isLet x = false := by
          rcases hsf with ⟨h, _⟩ | ⟨_, h, _⟩ | ⟨_, h, _⟩
          · exact absurd (congrArg V.str h) e
          · exact h
          · exact h
        exact ⟨[], rfl, Nat.zero_le _, fun y hy => (nomatch hy), by show [x].filterMap letNm = []; rw [List.filterMap_cons, isLet_no hil]; rfl⟩
    rw [hmore]
    have s7 := same_upd (o := .lst (more.map V.str)) nl2
    have hl2 : upd H6 l2 (.lst (more.map V.str)) l2 = some (.lst (more.map V.str)) := upd_same
    have s67 := s6.trans s7
    revert s67 hl2
    clear s7 nl2
    generalize upd H6 l2 (.lst (more.map V.str)) = H7
    intro hl2 s67
    refine ⟨sc, l2, _, _, rfl, rfl, s67 _ _ hsc5, hl2, ?_, fun sc2 nsc2 => ?_⟩
    · rw [List.length_map, List.length_map]
      exact h1000 (by omega)
    rw [← List.map_append]
    have s8 := same_upd (o := .lst ((scope ++ more).map V.str)) nsc2
    have s58 := s67.trans s8
    have hsc2 := (D5.same s67).new nsc2
    exact ⟨sc2, _, us ++ [.ref p], ds ++ [x], scope ++ more, rfl, k5.trans (Keep.of s58), (D5.same s58).mono (by omega), s58 _ _ hf5, svs_keep (KeepT.of s58) hs5, by rw [List.length_append, hl]; rfl, ⟨upd_same, hsc2, fun z hz => by
      rcases List.mem_append.mp hz with h | h
      · exact S.nm z h
      · exact hmn z h, by rw [List.length_append]; omega⟩, by rw [List.length_append]; omega, (ne_of_none (s67 _ _ hf5) nsc2).symm, .snoc ds x hch (by rw [hsc']; exact sx), by rw [letsD_append, hsc', hml]⟩
  · rintro σ H3 ⟨sc, y6, us, ds, scope, rfl, k3, D3, hf, hs, hl, S, hsl, nsf, hch, hsc'⟩
    refine ⟨.ref fo, rfl, fo, us, rfl, .inl ⟨.inl (.inl hf), fun p np => ?_⟩⟩
    have s4 := same_upd (o := .tup us) np
    exact q _ p us ds (k3.trans (Keep.of s4)) ((D3.same s4).mono (by omega)) upd_same (svs_keep (KeepT.of s4) hs) (by omega) hch
end
end L19

namespace WX
open PySem PySem.Spec PySem.AutoSeq1
theorem ext_tup (l : Addr) (items : Array Value) (n : Nat) (b : Addr) (items2 : Array Value) (n2 : Nat) (dd : Option Addr) (sl : Array (Option Value)) (hs0 : ¬(!items.isEmpty && Builtin.List.listTooLong (items.size + items2.size)) = true) (hs1 : items.size ≤ sizeLine) (hs2 : items.size + items2.size ≤ sizeLine + 1) :
    Meets (Builtin.«list.extend» ⟨[.ref l, .ref b], []⟩) (fun _ R s => s.heap.get? l = some { cls := .type "list", dict := none, data := .seq items n, slots := #[] } ∧ s.heap.get? b = some { cls := .type "tuple", dict := dd, data := .seq items2 n2, slots := sl } ∧ R (.ok (.ret Value.none)) { s with heap := s.heap.update l (Obj.mapSeq fun x => x ++ items2), toks := s.toks }) := by
  refine .of_wp fun prog w A R s h => ?_
  obtain ⟨hp, g, d, tk, os⟩ := s
  obtain ⟨hl, hb, h⟩ := h
  have f1 := idx_int
  have f2 := sub_tuple_tuple
  have f3 := sub_list_list
  have f4 := sub_tuple_list
  have f5 := sub_list_tuple
  have hz' : (items ++ items2).size ≤ sizeLine + 1 := by
    rw [Array.size_append]
    exact hs2
  wp_walk using (wpAny_updateSeq hl rfl (hz := hs1) (_hz' := hz')), wpAny_loadPart' hl, wpAny_loadPart' hb
  exact ⟨_, rfl, h⟩
end WX

/-! Words that the hand layer lacks: a list extended by a tuple. -/
namespace WX
open PySem PySem.Spec PyProof.Rows L2
def rExtendT (K : PySem.W.Frag) : V → List V → Hp → VK → Prop := fun x vs H Q => ∃ (l b : Addr) (xs zs : List V), x = .ref l ∧ vs = [.ref b] ∧ H l = some (.lst xs) ∧ SqT K H b zs ∧ xs.length + zs.length ≤ sizeLine ∧ Q .non (upd H l (.lst (xs ++ zs)))
section
variable {X : Cx}
theorem mt_extendT : MtM X "list.extend" (rExtendT X.K) := by
  intro pins s σ H x vs v us Q I rx rv h
  obtain ⟨l, b, xs, zs, rfl, rfl, hH, hB, hz, q⟩ := h
  cases rx
  obtain ⟨u, rfl, ru⟩ := rv.one
  cases ru
  obtain ⟨z, its, n, r, hl, e⟩ := I.lstM hH
  obtain ⟨its2, r2, ⟨⟨c2, d2, dat2, sl2⟩, g2, hc2, n2, hd2⟩, z2⟩ := I.tuple hB
  have hc2 : c2 = .type "tuple" := hc2
  have hd2 : dat2 = .seq its2.toArray n2 := hd2
  subst hc2
  subst hd2
  have hl2 := r2.length
  have small : its.toArray.size + its2.toArray.size ≤ sizeLine := by
    rw [List.size_toArray, List.size_toArray]
    omega
  have short : ¬ (!its.toArray.isEmpty && Builtin.List.listTooLong (its.toArray.size + its2.toArray.size)) = true := by
    rw [notLongL small, Bool.and_false]
    exact Bool.false_ne_true
  refine call_meets F.slot_list_extend ⟨_, e, rfl⟩ F.entry_list_extend (F.args_list_extend_2 _ _)
    (ext_tup l its.toArray n b its2.toArray n2 d2 sl2 short (by rw [List.size_toArray]; omega) (by omega)) ⟨e, g2, ?_⟩
  refine ⟨.non, _, I.lset (its' := its ++ its2) hH e (by simp) (r.append r2) ?_, rfl, q⟩
  rw [List.length_append]
  omega
/-- a list extended by a list or by a tuple -/
def rExtendA (K : PySem.W.Frag) : V → List V → Hp → VK → Prop := fun x vs H Q => rExtend x vs H Q ∨ rExtendT K x vs H Q
theorem mt_extendA : MtM X "list.extend" (rExtendA X.K) := by
  intro pins s σ H x vs v us Q I rx rv h
  rcases h with h | h
  · exact mt_extend pins s σ H x vs v us Q I rx rv h
  · exact mt_extendT pins s σ H x vs v us Q I rx rv h
end
end WX

/-! Words that the hand layer lacks: a call by place of a def with a star; max(list of ints, default=); frozen tuples; dict(tuple of pairs). -/
namespace SC
open PySem PySem.Spec PyProof.Rows L2
section
variable {X : Cx} {CX : CXT} {k : Nat} {f : Addr} {sp : Sp} {E : XK} {x : Str} {e : Expr} {es : List Expr} {t : TA} {p pos : Pos}
theorem pe_callR (F : FnR X.prog X.w X.K X.mg X.base CX k f sp) (hr : Room k X.A) (hg : Gl X x) (hm : X.mg x = some (.ref f)) (hk : PySem.W.keepIn X.K (.ref f) = true) (hx : Passes CX X E)
    (ha : PA X (e :: es) t) (hdb : (x == ("__debug__" : Str)) = false := by decide) (he : starEach (e :: es) X.env = (false, eval e X.env) :: starEach es X.env := by rfl) (hpl : (backTo pos (starEach es X.env)).any (·.1) = false := by rfl) :
    PE X (.Call (.Name x p) (e :: es) [] pos) (tCall sp [] E t) := by
  refine ⟨fun pins s σ H Q I h => ?_⟩
  refine wpAny_Call_Name_kw (ld_glob I hg hm ?_ hdb)
  refine PySem.W.callWith_K (h₀ := X.base) I.ok.mod.kin hk (thn (ha.run pos pins s σ H _ I h) fun us s1 ⟨vs, H1, I1, r, q⟩ => ⟨I1.kIn, ?_⟩) he hpl
  have q : sp (vs ++ []) H1 Q E := q
  rw [List.append_nil] at q
  exact wpAny_call (run_fnR F hr hx I1 r q)
theorem pe_callR0 (F : FnR X.prog X.w X.K X.mg X.base CX k f sp) (hr : Room k X.A) (hg : Gl X x) (hm : X.mg x = some (.ref f)) (hk : PySem.W.keepIn X.K (.ref f) = true) (hx : Passes CX X E)
    (hdb : (x == ("__debug__" : Str)) = false := by decide) : PE X (.Call (.Name x p) [] [] pos) (tCall sp [] E tNil) := by
  refine ⟨fun pins s σ H Q I h => ?_⟩
  refine wpAny_Call_Name_kw (ld_glob I hg hm ?_ hdb)
  exact PySem.W.callWith_K0 I.kIn hk (wpAny_call (run_fnR (us := []) F hr hx I .nil h))
end
/-! ### max of a list of ints, with a default -/
def rMaxI (K : PySem.W.Frag) : List V → List V → Hp → VK → Prop := fun vs zs H Q => ∃ (a : Addr) (ns : List Int) (d : V), vs = [.ref a] ∧ zs = [d] ∧ SqL K H a (ns.map V.int) ∧ ns ≠ [] ∧ ∀ n, n ∈ ns → (∀ m, m ∈ ns → m ≤ n) → Q (.int n) H
theorem holdAll_ints {h : Heap} : ∀ {ns : List Int} {us : List Value}, Vals (ns.map V.int) us → PySem.W.HoldAll h us ns
  | [], us, r => by
    rw [List.map_nil] at r
    cases r
    exact ⟨[], .nil⟩
  | n :: ns, us, r => by
    rw [List.map_cons] at r
    cases r with
    | cons a b =>
      obtain ⟨t, rfl⟩ := a
      obtain ⟨as, ih⟩ := holdAll_ints b
      exact ⟨_, .cons (.int n t) ih⟩
theorem maxI_ge : ∀ (xs : List Int) (x : Int), x ≤ PySem.W.maxOf x xs ∧ ∀ y, y ∈ xs → y ≤ PySem.W.maxOf x xs
  | [], x => ⟨Int.le_refl _, fun y h => nomatch h⟩
  | z :: xs, x => by
    have e : PySem.W.maxOf x (z :: xs) = PySem.W.maxOf (if x < z then z else x) xs := by
      show List.foldl _ _ xs = List.foldl _ _ xs
      congr 1
      show (if decide (x < z) = true then z else x) = _
      by_cases h : x < z
      · rw [if_pos h, if_pos (decide_eq_true h)]
      · rw [if_neg h, if_neg (by simpa using h)]
    obtain ⟨h1, h2⟩ := maxI_ge xs (if x < z then z else x)
    rw [e]
    refine ⟨Int.le_trans ?_ h1, fun y hy => ?_⟩
    · split <;> omega
    · rcases List.mem_cons.mp hy with rfl | hy
      · exact Int.le_trans (by split <;> omega) h1
      · exact h2 y hy
section
variable {X : Cx}
theorem cr_maxD (hc : X.calm = true) (hu : X.A.units + 1 + 0 < cLine) : CallRK X (.builtin "max") [Str.ofString "default"] (rMaxI X.K) := by
  intro pins s σ H vs zs us ws Q I r rz h
  obtain ⟨a, ns, d, rfl, rfl, hs, h0, q⟩ := h
  obtain rfl := Vals.ref1 r
  obtain ⟨w1, rfl, e1⟩ := vals1 rz
  obtain ⟨its, rv, hl, hz⟩ := I.list hs
  refine PySem.W.max_list_datum_default (α := Int) (I.ok.hd hc) hl.isList (holdAll_ints (by simpa using rv)) hu (fun z => absurd z h0) fun y ys i v h' tk e hi hv hk => ?_
  subst e
  obtain ⟨as, hv⟩ := hv
  obtain ⟨t, rfl, _⟩ := PyProof.Rows.reads_int_inv hv
  have hm : PySem.W.maxOf y ys ∈ y :: ys := by
    have hi' : its[i]? = some (.int (PySem.W.maxOf y ys) t) := by simpa using hi
    have hlt : i < its.length := (List.getElem?_eq_some_iff.mp hi').1
    rw [← rv.length, List.length_map] at hlt
    obtain ⟨u, g1, g2⟩ := rv.get (show ((y :: ys).map V.int)[i]? = some (V.int ((y :: ys)[i])) by rw [List.getElem?_map, List.getElem?_eq_getElem hlt]; rfl)
    rw [hi'] at g1
    cases g1
    obtain ⟨t', e'⟩ := g2
    have e2 : PySem.W.maxOf y ys = (y :: ys)[i] := by injection e'
    rw [e2]
    exact List.getElem_mem hlt
  have hg := maxI_ge ys y
  exact ⟨.int _, H, I.kept (t' := tk) hk, ⟨t, rfl⟩, q _ hm fun m hm' => by
    rcases List.mem_cons.mp hm' with rfl | hm'
    · exact hg.1
    · exact hg.2 m hm'⟩
end
/-! ### tuples whose objects are known; dict of such -/
/-- a tuple of which it is known that its object holds no dict -/
def TupF (H : Hp) (a : Addr) (xs : List V) : Prop := ∃ o : Obj, H a = some (.frz o (.tup xs)) ∧ o.dict = none
theorem TupF.sq {K : PySem.W.Frag} {H : Hp} {a : Addr} {xs : List V} (h : TupF H a xs) : SqT K H a xs := let ⟨o, e, _⟩ := h; .inl (.inr ⟨o, e⟩)
section
variable {X : Cx}
theorem call_tupleF : CallR X (.type "tuple") (fun xs H Q => ∃ p ys, xs = [.ref p] ∧ SqL X.K H p ys ∧ ∀ l o, o.dict = none → H l = none → Q (.ref l) (upd H l (.frz o (.tup ys)))) := by
  intro pins s σ H xs us Q I r h
  obtain ⟨p, ys, rfl, hq, q⟩ := h
  obtain ⟨u, rfl, rx⟩ := vals1 r
  cases rx
  obtain ⟨its, r', pl, hz⟩ := I.list hq
  have hlen := r'.length
  refine call_tuple_list pl.isList (fun h' kp => ?_) (by simp only [List.size_toArray] <;> omega)
  have I1 : Inv X pins σ H { s with heap := h' } := I.kept (t' := s.toks) kp
  have I2 : Inv X pins σ (upd H h'.objs.size (.frz { cls := .type "tuple", data := .seq its.toArray } (.tup ys))) { s with heap := h'.push { cls := .type "tuple", data := .seq its.toArray } } :=
    I1.laid (t' := s.toks) (fun b o e => Heap.get?_push_of_some _ e) (Nat.le_refl _) (show ObjOk X.prog X.w _ _ _ (.frz _ (.tup ys)) from ⟨Heap.get?_push_size _ rfl, hz, its, r', IsTup.new _ _⟩)
  exact ⟨.ref h'.objs.size, _, I2, rfl, q _ _ rfl (I1.hok.fresh (Nat.le_refl _))⟩
theorem pairs_of2 {pins : List (Addr × Obj)} {σ : L2.St} {H : Hp} {s : Shared} (I : Inv X pins σ H s) : ∀ {ps : List Addr} {kvs : List (Key × V)}, Paired (fun p kv => SqT X.K H p [kV kv.1, kv.2]) ps kvs →
    ∃ (prs : List (Key × Value)) (qs : List (Value × Value)), KV kvs prs ∧ prs.length = ps.length ∧ qs.length = ps.length ∧
      (∀ (j : Nat) (u v : Value), qs[j]? = some (u, v) → ∃ (b : Addr) (k : Key), ps[j]? = some b ∧ prs[j]? = some (k, v) ∧ IsTup s.heap b #[u, v] ∧ keyIs k u = true)
  | _, _, .nil => ⟨[], [], .nil, rfl, rfl, fun j u v e => by simp at e⟩
  | _, _, .cons (a := p) (b := kv) h t => by
    obtain ⟨prs, qs, r, hl, hl2, hp⟩ := pairs_of2 I t
    obtain ⟨its, rv, ht, _⟩ := I.tuple h
    obtain ⟨u, y, ei, ru, ry⟩ := vals2 rv
    subst ei
    refine ⟨(kv.1, y) :: prs, (u, y) :: qs, .cons ⟨rfl, ry⟩ r, by rw [List.length_cons, List.length_cons, hl], by rw [List.length_cons, List.length_cons, hl2], fun j u' v' e => ?_⟩
    cases j with
    | zero =>
      have e' : (u, y) = (u', v') := Option.some.inj e
      cases e'
      exact ⟨p, kv.1, rfl, rfl, ht, kV_is (P := X.prog) (w := X.w) ru⟩
    | succ j =>
      obtain ⟨b, k, e1, e2, e3, e4⟩ := hp j u' v' (by simpa using e)
      exact ⟨b, k, by simpa using e1, by simpa using e2, e3, e4⟩
theorem call_dictT (hcalm : X.calm = true) : CallR X (.type "dict") (fun xs H Q => ∃ (a : Addr) (ps : List Addr) (kvs : List (Key × V)), xs = [.ref a] ∧ TupF H a (ps.map V.ref) ∧ Paired (fun p kv => SqT X.K H p [kV kv.1, kv.2]) ps kvs ∧
    ∀ p, H p = none → Q (.ref p) (upd H p (.dK (mergeK [] kvs)))) := by
  intro pins s σ H xs us Q I r q
  obtain ⟨a, ps, kvs, ex, ⟨o, hq, hdn⟩, hp, q⟩ := q
  subst ex
  obtain ⟨u, eu, rx⟩ := vals1 r
  subst eu
  cases rx
  obtain ⟨ho, hz, its, rv, o', ho', hc, n, hdat⟩ := I.hok _ _ hq
  rw [ho] at ho'
  cases ho'
  have ei := refs_at rv
  subst ei
  rw [List.length_map] at hz
  obtain ⟨prs, qs, rel, hl, hl2, hpr⟩ := pairs_of2 I hp
  refine PySem.call_dict_pairs (knd := mixKind X.prog X.w) (kvs := prs) (PySem.PairArg.tuple a (ps.map Value.ref).toArray (fun j => ps.getD j 0) qs) (I.ok.hd hcalm) ⟨⟨o, n, ho, hc, hdn, hdat⟩, by simp [hl2], fun j k v e => ?_⟩ ⟨by rw [hl, hl2], fun i key v e => ?_⟩ (by rw [hl2]; exact hz) fun h' tk hd' k => ?_
  · obtain ⟨b, k', e1, e2, e3, e4⟩ := hpr j k v e
    have eb : ps.getD j 0 = b := by rw [List.getD_eq_getElem?_getD, e1]; rfl
    show _ ∧ PySem.PairAt s.heap (ps.getD j 0) k v
    rw [eb]
    exact ⟨by simp [e1], .inl e3⟩
  · obtain ⟨b, k', e1, e2, e3, e4⟩ := hpr i key v e
    exact ⟨k', e2, e4⟩
  · have hm : (s.heap.objs.size == sysModules) = false := beq_eq_false_iff_ne.mpr (Nat.ne_of_gt I.big)
    have hlen : (mergeK [] kvs).length ≤ sizeLine := by
      refine Nat.le_trans (length_mergeK kvs []) ?_
      rw [List.length_nil, Nat.zero_add, rel.length, hl]
      exact hz
    exact ⟨.ref s.heap.objs.size, upd H s.heap.objs.size (.dK (mergeK [] kvs)), I.laid (t' := tk) (fun b ob e => k b ob (fun z => nomatch z) e) (Nat.le_refl _) (show ObjOk X.prog X.w _ _ _ (.dK (mergeK [] kvs)) from ⟨hlen, hm, merged [] prs, KV.merge rel .nil, hd'⟩), rfl, q _ (I.hok.fresh (Nat.le_refl _))⟩
end
end SC

namespace L19
open PySem PySem.Spec PyProof.Rows L2 GR
abbrev St1 := V × PyData
abbrev En := Int × V × PyData
/-- an entry at r -/
def EnOk (K : PySem.W.Frag) (H : Hp) (r : Addr) (e : En) : Prop := H r = some (.tup [.int e.1, e.2.1]) ∧ SV K H e.2.1 e.2.2
theorem EnOk.keep {K : PySem.W.Frag} {H H' : Hp} {r : Addr} {e : En} (h : EnOk K H r e) (k : KeepT H H') : EnOk K H' r e := ⟨k.1 _ _ h.1, h.2.keep k⟩
abbrev EnsOk (K : PySem.W.Frag) (H : Hp) : List Addr → List En → Prop := Paired (EnOk K H)
theorem ens_keep {K : PySem.W.Frag} {H H' : Hp} (k : KeepT H H') : ∀ {rs : List Addr} {es : List En}, EnsOk K H rs es → EnsOk K H' rs es
  | _, _, .nil => .nil
  | _, _, .cons h t => .cons (h.keep k) (ens_keep k t)
theorem ens_append {K : PySem.W.Frag} {H : Hp} : ∀ {rs us : List Addr} {es fs : List En}, EnsOk K H rs es → EnsOk K H us fs → EnsOk K H (rs ++ us) (es ++ fs)
  | _, _, _, _, .nil, h => h
  | _, _, _, _, .cons h t, g => .cons h (ens_append t g)
theorem ens_len {K : PySem.W.Frag} {H : Hp} {rs : List Addr} {es : List En} (h : EnsOk K H rs es) : rs.length = es.length := Paired.length h
def ed (e : En) : PyData := .tuple [.int e.1, e.2.2]
def logD (ms : List Int) (es : List En) : PyData := .tuple [.tuple (ms.map PyData.int), .tuple (es.map ed)]
/-- a log at p -/
def Lg (K : PySem.W.Frag) (H : Hp) (p : Addr) (ms : List Int) (es : List En) : Prop := ∃ (mp ep : Addr) (rs : List Addr), H p = some (.tup [.ref mp, .ref ep]) ∧ H mp = some (.tup (ms.map V.int)) ∧ Rd H ep (.tup (rs.map V.ref)) ∧ EnsOk K H rs es
theorem rd_keep {H H' : Hp} {a : Addr} {xs : List V} (h : Rd H a (.tup xs)) (k : KeepT H H') : Rd H' a (.tup xs) := by
  rcases h with h | ⟨o, h⟩
  · exact .inl (k.1 _ _ h)
  · exact .inr ⟨o, k.2 _ _ _ h⟩
/-- a log whose tuple of entries has an object known to hold no dict -/
def LgF (K : PySem.W.Frag) (H : Hp) (p : Addr) (ms : List Int) (es : List En) : Prop := ∃ (mp ep : Addr) (rs : List Addr), H p = some (.tup [.ref mp, .ref ep]) ∧ H mp = some (.tup (ms.map V.int)) ∧ SC.TupF H ep (rs.map V.ref) ∧ EnsOk K H rs es
theorem LgF.lg {K : PySem.W.Frag} {H : Hp} {p : Addr} {ms : List Int} {es : List En} (h : LgF K H p ms es) : Lg K H p ms es := by
  obtain ⟨mp, ep, rs, h1, h2, ⟨o, h3, _⟩, h4⟩ := h
  exact ⟨mp, ep, rs, h1, h2, .inr ⟨o, h3⟩, h4⟩
theorem tupF_keep {H H' : Hp} {a : Addr} {xs : List V} (h : SC.TupF H a xs) (k : KeepT H H') : SC.TupF H' a xs := let ⟨o, e, d⟩ := h; ⟨o, k.2 _ _ _ e, d⟩
theorem LgF.keep {K : PySem.W.Frag} {H H' : Hp} {p : Addr} {ms : List Int} {es : List En} (h : LgF K H p ms es) (k : KeepT H H') : LgF K H' p ms es := by
  obtain ⟨mp, ep, rs, h1, h2, h3, h4⟩ := h
  exact ⟨mp, ep, rs, k.1 _ _ h1, k.1 _ _ h2, tupF_keep h3 k, ens_keep k h4⟩
theorem Lg.keep {K : PySem.W.Frag} {H H' : Hp} {p : Addr} {ms : List Int} {es : List En} (h : Lg K H p ms es) (k : KeepT H H') : Lg K H' p ms es := by
  obtain ⟨mp, ep, rs, h1, h2, h3, h4⟩ := h
  exact ⟨mp, ep, rs, k.1 _ _ h1, k.1 _ _ h2, rd_keep h3 k, ens_keep k h4⟩
theorem dp_ints' {K : PySem.W.Frag} {H : Hp} : ∀ ns : List Int, DpAll K H (ns.map V.int) (ns.map PyData.int)
  | [] => .nil
  | n :: ns => .cons (.int n) (dp_ints' ns)
theorem sv_dp {K : PySem.W.Frag} {H : Hp} {v : V} {x : PyData} (h : SV K H v x) : Dp K H v x ∧ Fine 8 12000 x := by
  obtain ⟨p, w, v1, vs, rfl, h1, h2, h3, h4⟩ := h
  exact ⟨h3, h4.1⟩
theorem ens_dp {K : PySem.W.Frag} {H : Hp} : ∀ {rs : List Addr} {es : List En}, EnsOk K H rs es → DpAll K H (rs.map V.ref) (es.map ed)
  | _, _, .nil => .nil
  | _, _, .cons h t => .cons (.tup (.inl (.inl h.1)) (.cons (.int _) (.cons (sv_dp h.2).1 .nil))) (ens_dp t)
theorem Lg.dp {K : PySem.W.Frag} {H : Hp} {p : Addr} {ms : List Int} {es : List En} (h : Lg K H p ms es) : Dp K H (.ref p) (logD ms es) := by
  obtain ⟨mp, ep, rs, h1, h2, h3, h4⟩ := h
  exact .tup (.inl (.inl h1)) (.cons (.tup (.inl (.inl h2)) (dp_ints' ms)) (.cons (.tup (.inl h3) (ens_dp h4)) .nil))
/-- what is true of its numbers -/
structure OkL (ms : List Int) (es : List En) : Prop where
  asc : (es.map (·.1)).Pairwise (· < ·)
  mono : ms.Pairwise (· ≤ ·)
  eb : ∀ e, e ∈ es → 0 ≤ e.1 ∧ e.1 ≤ 10000
  mb : ∀ m, m ∈ ms → 0 ≤ m ∧ m ≤ 10000
  m0 : (0 : Int) ∈ ms
  ml : ms.length ≤ 6
  el : es.length ≤ 30
/-- the transactions in the list at so -/
structure Sm (K : PySem.W.Frag) (H : Hp) (so : Addr) (T : List (Addr × List St1)) : Prop where
  at' : H so = some (.lst (T.map fun t => V.ref t.1))
  tr : ∀ t, t ∈ T → H t.1 = some (.tup (t.2.map (·.1))) ∧ t.2.length ≤ 6 ∧ ∀ s, s ∈ t.2 → SV K H s.1 s.2
  len : T.length ≤ 5
theorem Sm.keep {K : PySem.W.Frag} {H H' : Hp} {so : Addr} {T : List (Addr × List St1)} (h : Sm K H so T) (k : KeepT H H') (hs : H' so = H so) : Sm K H' so T :=
  ⟨hs.trans h.at', fun t ht => ⟨k.1 _ _ (h.tr t ht).1, (h.tr t ht).2.1, fun s hs' => ((h.tr t ht).2.2 s hs').keep k⟩, h.len⟩
def entN (k : Nat) : List St1 → List En
  | [] => []
  | s :: l => ((k : Int), s.1, s.2) :: entN (k + 1) l
def mks (k : Nat) : List (List St1) → List Int
  | [] => []
  | t :: T => ((k + t.length : Nat) : Int) :: mks (k + t.length) T
theorem entN_append : ∀ (a b : List St1) (k : Nat), entN k (a ++ b) = entN k a ++ entN (k + a.length) b
  | [], b, k => rfl
  | s :: a, b, k => by
    rw [List.cons_append, entN, entN, entN_append a b (k + 1), List.cons_append, List.length_cons, show k + 1 + a.length = k + (a.length + 1) by omega]
theorem entN_len : ∀ (a : List St1) (k : Nat), (entN k a).length = a.length
  | [], k => rfl
  | s :: a, k => by rw [entN, List.length_cons, List.length_cons, entN_len a (k + 1)]
theorem mks_append : ∀ (a b : List (List St1)) (k : Nat), mks k (a ++ b) = mks k a ++ mks (k + a.flatten.length) b
  | [], b, k => rfl
  | t :: a, b, k => by
    rw [List.cons_append, mks, mks, mks_append a b, List.cons_append, List.flatten_cons, List.length_append, Nat.add_assoc]
theorem mks_len : ∀ (a : List (List St1)) (k : Nat), (mks k a).length = a.length
  | [], k => rfl
  | t :: a, k => by rw [mks, List.length_cons, List.length_cons, mks_len a]
theorem entN_ge : ∀ (a : List St1) (k : Nat) (e : En), e ∈ entN k a → (k : Int) ≤ e.1 ∧ e.1 < ((k + a.length : Nat) : Int)
  | [], k, e, h => (nomatch h)
  | s :: a, k, e, h => by
    rw [entN] at h
    rw [List.length_cons]
    rcases List.mem_cons.mp h with rfl | h
    · exact ⟨Int.le_refl _, by show (k : Int) < _; omega⟩
    · have := entN_ge a (k + 1) e h
      omega
theorem entN_asc : ∀ (a : List St1) (k : Nat), ((entN k a).map (·.1)).Pairwise (· < ·)
  | [], k => .nil
  | s :: a, k => by
    rw [entN, List.map_cons]
    refine .cons (fun m hm => ?_) (entN_asc a (k + 1))
    obtain ⟨e, he, rfl⟩ := List.mem_map.mp hm
    have := (entN_ge a (k + 1) e he).1
    show (k : Int) < e.1
    omega
theorem mks_ge : ∀ (a : List (List St1)) (k : Nat) (m : Int), m ∈ mks k a → (k : Int) ≤ m ∧ m ≤ ((k + a.flatten.length : Nat) : Int)
  | [], k, m, h => (nomatch h)
  | t :: a, k, m, h => by
    rw [mks] at h
    rw [List.flatten_cons, List.length_append]
    rcases List.mem_cons.mp h with rfl | h
    · omega
    · have := mks_ge a (k + t.length) m h
      omega
theorem mks_mono : ∀ (a : List (List St1)) (k : Nat), (mks k a).Pairwise (· ≤ ·)
  | [], k => .nil
  | t :: a, k => by
    rw [mks]
    exact .cons (fun m hm => (mks_ge a _ m hm).1) (mks_mono a _)
theorem flat_len {T : List (List St1)} {b : Nat} : (∀ t, t ∈ T → t.length ≤ b) → T.flatten.length ≤ T.length * b := by
  induction T with
  | nil => intro _; exact Nat.zero_le _
  | cons t T ih =>
    intro h
    have h1 := h t List.mem_cons_self
    have h2 := ih fun y hy => h y (List.mem_cons_of_mem _ hy)
    rw [List.flatten_cons, List.length_append, List.length_cons, Nat.succ_mul]
    omega
theorem okL_counted {T : List (List St1)} (h1 : T.length ≤ 5) (h2 : ∀ t, t ∈ T → t.length ≤ 6) : OkL (0 :: mks 0 T) (entN 0 T.flatten) := by
  have hf := flat_len h2
  have hf30 : T.flatten.length ≤ 30 := by omega
  refine ⟨entN_asc _ _, .cons (fun m hm => (mks_ge T 0 m hm).1) (mks_mono T 0), fun e he => ?_, fun m hm => ?_, List.mem_cons_self, by rw [List.length_cons, mks_len]; omega, by rw [entN_len]; exact hf30⟩
  · have := entN_ge _ _ e he
    omega
  · rcases List.mem_cons.mp hm with rfl | hm
    · omega
    · have := mks_ge T 0 m hm
      omega
/-! ### how it is shown -/
theorem fines_ints {k : Nat} : ∀ {ms : List Int}, (∀ m, m ∈ ms → 0 ≤ m ∧ m ≤ 10000) → Fines k (22 * ms.length) (ms.map PyData.int)
  | [], _ => .nil
  | m :: ms, h => by
    have h1 := h m List.mem_cons_self
    have h2 := fines_ints (k := k) fun y hy => h y (List.mem_cons_of_mem _ hy)
    rw [List.length_cons, show 22 * (ms.length + 1) = 22 + 22 * ms.length by omega, List.map_cons]
    exact .cons (Fine.int (by omega) (by omega)).k0 h2
theorem fines_ens {es : List En} (h : ∀ e, e ∈ es → (0 ≤ e.1 ∧ e.1 ≤ 10000) ∧ Fine 8 12000 e.2.2) : Fines 9 (12030 * es.length) (es.map ed) := by
  induction es with
  | nil => exact .nil
  | cons e es ih =>
    have h1 := h e List.mem_cons_self
    rw [List.length_cons, show 12030 * (es.length + 1) = 12030 + 12030 * es.length by omega, List.map_cons]
    exact .cons (((Fines.cons (Fine.int (by omega) (by omega)).k0 (.cons h1.2 .nil)).tup).mono (by decide) (by decide)) (ih fun y hy => h y (List.mem_cons_of_mem _ hy))
theorem ens_fine {K : PySem.W.Frag} {H : Hp} : ∀ {rs : List Addr} {es : List En}, EnsOk K H rs es → ∀ e, e ∈ es → Fine 8 12000 e.2.2
  | _, _, .nil, e, h => (nomatch h)
  | _, _, .cons h t, e, he => by
    rcases List.mem_cons.mp he with rfl | he
    · exact (sv_dp h.2).2
    · exact ens_fine t e he
theorem Lg.fine {K : PySem.W.Frag} {H : Hp} {p : Addr} {ms : List Int} {es : List En} (h : Lg K H p ms es) (o : OkL ms es) : Fine 11 400000 (logD ms es) := by
  obtain ⟨mp, ep, rs, h1, h2, h3, h4⟩ := h
  have a := (fines_ints (k := 0) o.mb).tup
  have b := (fines_ens fun e he => ⟨o.eb e he, ens_fine h4 e he⟩).tup
  have ml := o.ml
  have el := o.el
  exact ((Fines.cons (a.mono (show 0 + 1 ≤ 10 by decide) (Nat.le_refl _)) (.cons b .nil)).tup).mono (by decide) (by omega)
theorem Sm.upd {K : PySem.W.Frag} {H : Hp} {so b : Addr} {T : List (Addr × List St1)} {ys zs : List V} (h : Sm K H so T) (hb : H b = some (.lst ys)) (n : so ≠ b) : Sm K (L2.upd H b (.lst zs)) so T := h.keep (KeepT.lst hb) (upd_ne n)
theorem Sm.same {K : PySem.W.Frag} {H H' : Hp} {so : Addr} {T : List (Addr × List St1)} (h : Sm K H so T) (s : Same H H') : Sm K H' so T := h.keep (KeepT.of s) (by rw [h.at']; exact s _ _ h.at')
theorem take_next {α : Type} {l : List α} {i : Nat} {x : α} (h : l[i]? = some x) : l.take (i + 1) = l.take i ++ [x] := by
  rw [List.take_add_one, h]
  rfl
end L19

namespace L19
open PySem PySem.Spec PyProof.Rows L2 GR
/-! ### what stands where -/
/-- the statement at a place -/
def stAt : List En → Int → V
  | [], _ => .non
  | e :: es, p => if e.1 = p then e.2.1 else stAt es p
theorem ens_get {K : PySem.W.Frag} {H : Hp} : ∀ {rs : List Addr} {es : List En}, EnsOk K H rs es → ∀ {i : Nat} {e : En}, es[i]? = some e → ∃ r, rs[i]? = some r ∧ EnOk K H r e
  | _, _, .nil, i, e, h => by simp at h
  | _, _, .cons (a := r) h t, 0, e, h' => by cases h'; exact ⟨r, rfl, h⟩
  | _, _, .cons h t, i + 1, e, h' => by
    obtain ⟨r, h1, h2⟩ := ens_get t (by simpa using h')
    exact ⟨r, by simpa using h1, h2⟩
theorem ens_at {K : PySem.W.Frag} {H : Hp} : ∀ {rs : List Addr} {es : List En}, EnsOk K H rs es → ∀ {i : Nat} {r : Addr}, rs[i]? = some r → ∃ e, es[i]? = some e ∧ EnOk K H r e
  | _, _, .nil, i, e, h => by simp at h
  | _, _, .cons (b := e) h t, 0, r, h' => by cases h'; exact ⟨e, rfl, h⟩
  | _, _, .cons h t, i + 1, r, h' => by
    obtain ⟨e, h1, h2⟩ := ens_at t (by simpa using h')
    exact ⟨e, by simpa using h1, h2⟩
theorem drop_at {α : Type} {l : List α} {i : Nat} {x : α} (h : l[i]? = some x) : l.drop i = x :: l.drop (i + 1) := by
  obtain ⟨hi, e⟩ := List.getElem?_eq_some_iff.mp h
  rw [List.drop_eq_getElem_cons hi, e]
end L19

namespace L19
open PySem PySem.Spec PyProof.Rows L2 GR
/-- the numbers of a log that is being made; a: the next place -/
structure Nu (ms : List Int) (es : List En) (a : Int) : Prop where
  asc : (es.map (·.1)).Pairwise (· < ·)
  lt : ∀ e, e ∈ es → 0 ≤ e.1 ∧ e.1 < a
  mono : ms.Pairwise (· ≤ ·)
  le : ∀ m, m ∈ ms → 0 ≤ m ∧ m ≤ a
  m0 : ms.head? = some 0
  a0 : 0 ≤ a
theorem Nu.more {ms : List Int} {es : List En} {a b : Int} (h : Nu ms es a) (k : a ≤ b) : Nu ms es b :=
  ⟨h.asc, fun e he => by have := h.lt e he; omega, h.mono, fun m hm => by have := h.le m hm; omega, h.m0, by have := h.a0; omega⟩
theorem Nu.line {ms : List Int} {es : List En} {a : Int} (h : Nu ms es a) (v : V) (x : PyData) : Nu ms (es ++ [(a, v, x)]) (a + 1) := by
  refine ⟨?_, fun e he => ?_, h.mono, fun m hm => by have := h.le m hm; omega, h.m0, by have := h.a0; omega⟩
  · rw [List.map_append, List.pairwise_append]
    refine ⟨h.asc, List.pairwise_singleton _ _, fun x hx y hy => ?_⟩
    obtain ⟨e, he, rfl⟩ := List.mem_map.mp hx
    rw [List.mem_singleton.mp hy]
    exact (h.lt e he).2
  · rcases List.mem_append.mp he with he | he
    · have := h.lt e he
      omega
    · rw [List.mem_singleton.mp he]
      have := h.a0
      exact ⟨this, by show a < a + 1; omega⟩
theorem Nu.mark {ms : List Int} {es : List En} {a : Int} (h : Nu ms es a) : Nu (ms ++ [a]) es a := by
  refine ⟨h.asc, h.lt, ?_, fun m hm => ?_, ?_, h.a0⟩
  · rw [List.pairwise_append]
    refine ⟨h.mono, List.pairwise_singleton _ _, fun x hx y hy => ?_⟩
    rw [List.mem_singleton.mp hy]
    exact (h.le x hx).2
  · rcases List.mem_append.mp hm with hm | hm
    · exact h.le m hm
    · rw [List.mem_singleton.mp hm]
      exact ⟨h.a0, Int.le_refl _⟩
  · rw [List.head?_append, h.m0]
    rfl
theorem head_mem {l : List Int} {a : Int} (h : l.head? = some a) : a ∈ l := by
  cases l with
  | nil => cases h
  | cons b l => cases h; exact List.mem_cons_self
theorem Nu.ok {ms : List Int} {es : List En} {a : Int} (h : Nu ms es a) (h1 : a ≤ 10000) (h2 : ms.length ≤ 6) (h3 : es.length ≤ 30) : OkL ms es :=
  ⟨h.asc, h.mono, fun e he => by have := h.lt e he; omega, fun m hm => by have := h.le m hm; omega, head_mem h.m0, h2, h3⟩
/-- the last mark becomes 10000 -/
theorem Nu.last {ms : List Int} {es : List En} {a : Int} (h : Nu ms es a) (h1 : a ≤ 10000) (h2 : ms.length ≤ 6) (h3 : es.length ≤ 30) (h4 : 1 < ms.length) : OkL (ms.set (ms.length - 1) 10000) es := by
  obtain ⟨fr, b, rfl⟩ : ∃ fr b, ms = fr ++ [b] := ⟨ms.dropLast, ms.getLast (fun z => by rw [z] at h4; cases h4), (List.dropLast_concat_getLast _).symm⟩
  have e : (fr ++ [b]).set ((fr ++ [b]).length - 1) 10000 = fr ++ [10000] := by
    rw [List.length_append, List.length_singleton, Nat.add_sub_cancel, List.set_append_right _ _ (Nat.le_refl _), Nat.sub_self]
    rfl
  rw [e]
  have hm := (List.pairwise_append.mp h.mono).1
  refine ⟨h.asc, ?_, fun e he => by have := h.lt e he; omega, fun m hm => ?_, ?_, by rw [List.length_append] at h2 ⊢; exact h2, h3⟩
  · rw [List.pairwise_append]
    refine ⟨hm, List.pairwise_singleton _ _, fun x hx y hy => ?_⟩
    rw [List.mem_singleton.mp hy]
    have := h.le x (List.mem_append_left _ hx)
    omega
  · rcases List.mem_append.mp hm with hm | hm
    · have := h.le m (List.mem_append_left _ hm)
      omega
    · rw [List.mem_singleton.mp hm]
      omega
  · cases fr with
    | nil => simp at h4
    | cons f fr =>
      have := h.m0
      cases this
      exact List.mem_cons_self
/-- two lists are being made beside a deck -/
structure He (K : PySem.W.Frag) (d c : Addr) (H0 : Hp) (mb lb : Addr) (ms : List Int) (es : List En) (H : Hp) : Prop where
  hm : H mb = some (.lst (ms.map V.int))
  hl : ∃ rs : List Addr, H lb = some (.lst (rs.map V.ref)) ∧ EnsOk K H rs es
  old : ∀ b ob, b ≠ d → b ≠ c → b ≠ mb → b ≠ lb → H0 b = some ob → H b = some ob
theorem He.keep {K : PySem.W.Frag} {d c : Addr} {H0 H H' : Hp} {mb lb : Addr} {ms : List Int} {es : List En} (t : He K d c H0 mb lb ms es H) (k : Keep d c H H') (kt : KeepT H H') (m : mb ≠ d ∧ mb ≠ c) (l : lb ≠ d ∧ lb ≠ c) : He K d c H0 mb lb ms es H' := by
  obtain ⟨rs, h1, h2⟩ := t.hl
  exact ⟨k _ _ m.1 m.2 t.hm, ⟨rs, k _ _ l.1 l.2 h1, ens_keep kt h2⟩, fun b ob n1 n2 n3 n4 e => k _ _ n1 n2 (t.old b ob n1 n2 n3 n4 e)⟩
theorem He.line {K : PySem.W.Frag} {d c : Addr} {H0 H : Hp} {mb lb r : Addr} {ms : List Int} {es : List En} {e : En} (t : He K d c H0 mb lb ms es H) (hml : mb ≠ lb) (hr : EnOk K H r e) : ∃ rs : List Addr, H lb = some (.lst (rs.map V.ref)) ∧ rs.length = es.length ∧ He K d c H0 mb lb ms (es ++ [e]) (upd H lb (.lst (rs.map V.ref ++ [.ref r]))) := by
  obtain ⟨rs, h1, h2⟩ := t.hl
  have kt : KeepT H (upd H lb (.lst (rs.map V.ref ++ [.ref r]))) := KeepT.lst h1
  refine ⟨rs, h1, ens_len h2, by rw [upd_ne hml]; exact t.hm, ⟨rs ++ [r], by rw [List.map_append]; exact upd_same, ens_append (ens_keep kt h2) (.cons (hr.keep kt) .nil)⟩, fun b ob n1 n2 n3 n4 e => ?_⟩
  rw [upd_ne n4]
  exact t.old b ob n1 n2 n3 n4 e
theorem He.marks {K : PySem.W.Frag} {d c : Addr} {H0 H : Hp} {mb lb : Addr} {ms ms' : List Int} {es : List En} (t : He K d c H0 mb lb ms es H) (hml : mb ≠ lb) : He K d c H0 mb lb ms' es (upd H mb (.lst (ms'.map V.int))) := by
  obtain ⟨rs, h1, h2⟩ := t.hl
  have kt : KeepT H (upd H mb (.lst (ms'.map V.int))) := KeepT.lst t.hm
  refine ⟨upd_same, ⟨rs, by rw [upd_ne hml.symm]; exact h1, ens_keep kt h2⟩, fun b ob n1 n2 n3 n4 e => ?_⟩
  rw [upd_ne n3]
  exact t.old b ob n1 n2 n3 n4 e
/-! ### what lies between the marks -/
abbrev enD (e : En) : PyData := e.2.2
def between (l h : Int) (es : List En) : List PyData := (es.filter fun e => decide (l ≤ e.1) && decide (e.1 < h)).map enD
def partsOf : List Int → List En → List (List PyData)
  | m :: m' :: ms, es => between m m' es :: partsOf (m' :: ms) es
  | _, _ => []
theorem between_append (l h : Int) (a b : List En) : between l h (a ++ b) = between l h a ++ between l h b := by
  unfold between
  rw [List.filter_append, List.map_append]
theorem between_all {l h : Int} : ∀ {es : List En}, (∀ e, e ∈ es → l ≤ e.1 ∧ e.1 < h) → between l h es = es.map enD
  | [], _ => rfl
  | e :: es, hh => by
    have h1 := hh e List.mem_cons_self
    have ih := between_all (es := es) fun x hx => hh x (List.mem_cons_of_mem _ hx)
    unfold between at ih ⊢
    rw [List.filter_cons, decide_eq_true h1.1, decide_eq_true h1.2]
    simp only [Bool.and_self, if_true, List.map_cons, ih]
theorem between_none {l h : Int} : ∀ {es : List En}, (∀ e, e ∈ es → e.1 < l ∨ h ≤ e.1) → between l h es = []
  | [], _ => rfl
  | e :: es, hh => by
    have h1 := hh e List.mem_cons_self
    have ih := between_none (es := es) fun x hx => hh x (List.mem_cons_of_mem _ hx)
    unfold between at ih ⊢
    have : (decide (l ≤ e.1) && decide (e.1 < h)) = false := by
      rcases h1 with h1 | h1
      · rw [decide_eq_false (by omega)]; rfl
      · rw [decide_eq_false (show ¬ e.1 < h by omega), Bool.and_false]
    rw [List.filter_cons, this]
    simp only [Bool.false_eq_true, if_false, ih]
theorem parts_more : ∀ {ms : List Int} {es new : List En} {a : Int}, (∀ m, m ∈ ms → m ≤ a) → (∀ e, e ∈ new → a ≤ e.1) → partsOf ms (es ++ new) = partsOf ms es
  | [], _, _, _, _, _ => rfl
  | [_], _, _, _, _, _ => rfl
  | m :: m' :: ms, es, new, a, h1, h2 => by
    have hm' := h1 m' (List.mem_cons_of_mem _ List.mem_cons_self)
    rw [partsOf, partsOf, between_append, between_none (es := new) (fun e he => .inr (Int.le_trans hm' (h2 e he))), List.append_nil, parts_more (fun x hx => h1 x (List.mem_cons_of_mem _ hx)) h2]
theorem parts_snoc : ∀ {ms : List Int} {es : List En} {a b : Int}, ms.getLast? = some a → partsOf (ms ++ [b]) es = partsOf ms es ++ [between a b es]
  | [], _, _, _, h => by cases h
  | [m], es, a, b, h => by cases h; rfl
  | m :: m' :: ms, es, a, b, h => by
    have ih := parts_snoc (ms := m' :: ms) (es := es) (a := a) (b := b) (by rw [List.getLast?_cons_cons] at h; exact h)
    show between m m' es :: partsOf ((m' :: ms) ++ [b]) es = between m m' es :: partsOf (m' :: ms) es ++ [between a b es]
    rw [ih]
    rfl
/-- the last mark moved up, above all entries -/
theorem parts_last {ms : List Int} {es : List En} {a b : Int} (h : ms.getLast? = some a) (h1 : ∀ e, e ∈ es → e.1 < a) (hab : a ≤ b) : partsOf (ms.set (ms.length - 1) b) es = partsOf ms es := by
  obtain ⟨fr, rfl⟩ : ∃ fr, ms = fr ++ [a] := by
    have hne : ms ≠ [] := fun e => by rw [e] at h; cases h
    have e := List.getLast?_eq_some_getLast hne
    rw [e] at h
    exact ⟨ms.dropLast, by rw [← Option.some.inj h]; exact (List.dropLast_concat_getLast hne).symm⟩
  have e : (fr ++ [a]).set ((fr ++ [a]).length - 1) b = fr ++ [b] := by
    rw [List.length_append, List.length_singleton, Nat.add_sub_cancel, List.set_append_right _ _ (Nat.le_refl _), Nat.sub_self]
    rfl
  rw [e]
  cases hl : fr.getLast? with
  | none =>
    rw [List.getLast?_eq_none_iff] at hl
    subst hl
    rfl
  | some l =>
    rw [parts_snoc hl, parts_snoc hl]
    have : between l b es = between l a es := by
      unfold between
      congr 1
      refine List.filter_congr fun e he => ?_
      have := h1 e he
      rw [decide_eq_true this, decide_eq_true (Int.lt_of_lt_of_le this hab)]
    rw [this]
/-- one transaction more -/
theorem parts_one {ms : List Int} {es new : List En} {a b : Int} (hl : ms.getLast? = some a) (hm : ∀ m, m ∈ ms → m ≤ a) (h1 : ∀ e, e ∈ es → e.1 < a) (h2 : ∀ e, e ∈ new → a ≤ e.1 ∧ e.1 < b) : partsOf (ms ++ [b]) (es ++ new) = partsOf ms es ++ [new.map enD] := by
  rw [parts_snoc hl, parts_more hm fun e he => (h2 e he).1, between_append, between_none fun e he => .inl (h1 e he), between_all h2, List.nil_append]
end L19

namespace L19
open PySem PySem.Spec PyProof.Rows L2 GR
section
variable {P : Program} {w : World} {K : PySem.W.Frag} {mg : Str → Option Value} {base : Heap}
abbrev s_law_spread : Stmt := topS 33
abbrev N_sp : List Str := ["_law_deck_here", "_law_some", "_law_marks", "_law_lines", "_law_at", "_law_transaction_here", "_law_statement_here"]
theorem sc_law_spread : FnScope N_sp ["_law_deck_here", "_law_some"] (defScope s_law_spread) := ⟨rfl, rfl, rfl, by decide +kernel, rfl, by decide +kernel, by decide +kernel⟩
def tdat (t : Addr × List St1) : List PyData := t.2.map (·.2)
def sp_spread (K : PySem.W.Frag) : Sp := fun vs H Q _ => ∃ (d c so : Addr) (N : Int) (T : List (Addr × List St1)), vs = [.ref d, .ref so] ∧ Deck H d c N ∧ N < 2 ^ 59 ∧ Sm K H so T ∧ so ≠ d ∧ so ≠ c ∧
  ∀ H' p ms es, Keep d c H H' → Deck H' d c (N + 100) → LgF K H' p ms es → OkL ms es → partsOf ms es = T.map tdat → (∀ e, e ∈ es → ∃ m, m ∈ ms ∧ e.1 < m) → Q (.ref p) H'
/-- the state between statements -/
structure Zu (K : PySem.W.Frag) (d c so : Addr) (N : Int) (T : List (Addr × List St1)) (H0 : Hp) (mb lb : Addr) (ms : List Int) (es : List En) (a : Int) (H : Hp) : Prop where
  he : He K d c H0 mb lb ms es H
  nu : Nu ms es a
  dk : Deck H d c N
  sm : Sm K H so T
theorem Zu.draw {K : PySem.W.Frag} {d c so : Addr} {N M : Int} {T : List (Addr × List St1)} {H0 H H' : Hp} {mb lb : Addr} {ms : List Int} {es : List En} {a : Int} (z : Zu K d c so N T H0 mb lb ms es a H) (k : Keep d c H H') (D : Deck H' d c M) (m : mb ≠ d ∧ mb ≠ c) (l : lb ≠ d ∧ lb ≠ c) (o : so ≠ d ∧ so ≠ c) : Zu K d c so M T H0 mb lb ms es a H' :=
  ⟨z.he.keep k (k.t z.dk) m l, z.nu, D, z.sm.keep (k.t z.dk) (by rw [z.sm.at']; exact k _ _ o.1 o.2 z.sm.at')⟩
theorem Zu.same {K : PySem.W.Frag} {d c so : Addr} {N : Int} {T : List (Addr × List St1)} {H0 H H' : Hp} {mb lb : Addr} {ms : List Int} {es : List En} {a : Int} (z : Zu K d c so N T H0 mb lb ms es a H) (s : Same H H') (m : mb ≠ d ∧ mb ≠ c) (l : lb ≠ d ∧ lb ≠ c) (o : so ≠ d ∧ so ≠ c) : Zu K d c so N T H0 mb lb ms es a H' := z.draw (Keep.of s) (z.dk.same s) m l o
theorem ok_spread {f f_law_draw f_law_pick : Addr} {fd fd_law_draw fd_law_pick : FuncData} {k : Nat} (F : Fun K "_law_spread" "_law_spread" s_law_spread f fd) (G_law_draw : FnOk P w K mg base CX0 k f_law_draw fd_law_draw ["_law_deck_here", "_law_most"] sp_draw)
    (g_law_draw : mg "_law_draw" = some (.ref f_law_draw)) (K_law_draw : PySem.W.keepIn K (.ref f_law_draw) = true) (b_law_draw : Binds K fd_law_draw ["_law_deck_here", "_law_most"] [])
    (G_law_pick : FnOk P w K mg base CX0 k f_law_pick fd_law_pick ["_law_deck_here", "_law_some"] (sp_pick K))
    (g_law_pick : mg "_law_pick" = some (.ref f_law_pick)) (K_law_pick : PySem.W.keepIn K (.ref f_law_pick) = true) (b_law_pick : Binds K fd_law_pick ["_law_deck_here", "_law_some"] [])
    (mlen : mg "len" = none) (mtuple : mg "tuple" = none) : FnOk P w K mg base CX0 (k + 1) f fd ["_law_deck_here", "_law_some"] (sp_spread K) := by
  have nd := sc_law_spread.nd
  refine F.ok sc_law_spread (fun vs H Q E h => ?_) (fun cdv A outer s H vs Q E hr h => ?_)
  · obtain ⟨d, c, so, N, T, rfl, _⟩ := h
    rfl
  obtain ⟨d, c, so, N, T, rfl, D, hN, S, hsd, hsc, q⟩ := h
  refine ⟨_, (pss_cons (ps_set (i := 2) nd rfl (.inl rfl) (pe_lst (pa_cons pe_int pa_nil)))
      (pss_cons (ps_set (i := 3) nd rfl (.inl rfl) (pe_lst pa_nil))
      (pss_cons (ps_set (i := 4) nd rfl (.inl rfl) pe_int)
      (pss_cons (ps_for PassesOwn.never rfl (pi_list (pv 1)) (pg_name (i := 5) nd rfl (Or.inl rfl))
      (pss_cons (ps_for PassesOwn.never rfl (pi_tup (pv 5)) (pg_name (i := 6) nd rfl (Or.inl rfl))
        (pss_cons (ps_set (i := 4) nd rfl (.inl rfl) (pe_op op_add (pv 4) (pe_call G_law_pick hr (by rfl) g_law_pick K_law_pick b_law_pick .nil pass0 (pa_cons (pv 0) (pa_cons (pe_lst (pa_cons pe_int (pa_cons pe_int (pa_cons pe_int (pa_cons pe_int pa_nil))))) pa_nil)))))
          (pss_cons (ps_expr (pe_bm PySem.F.plainAttrs_list PySem.F.slot_list_append PySem.F.type_list_append mt_append (pv 3) (pa_cons (pe_tup (pa_cons (pv 4) (pa_cons (pv 6) pa_nil))) pa_nil)))
          (pss_one (ps_set (i := 4) nd rfl (.inl rfl) (pe_op op_add (pv 4) pe_int))))))
        (pss_cons (ps_set (i := 4) nd rfl (.inl rfl) (pe_op op_add (pv 4) (pe_call G_law_pick hr (by rfl) g_law_pick K_law_pick b_law_pick .nil pass0 (pa_cons (pv 0) (pa_cons (pe_lst (pa_cons pe_int (pa_cons pe_int (pa_cons pe_int (pa_cons pe_int pa_nil))))) pa_nil)))))
        (Evl.pss_cut (ps_if (PW.pt (pw_and (pt_cmpR op_lt (pv 4) pe_int (nomark _)) (pw_and1 (pt_cmpR op_eq (pe_call G_law_draw hr (by rfl) g_law_draw K_law_draw b_law_draw .nil pass0 (pa_cons (pv 0) (pa_cons pe_int pa_nil))) pe_int (nomark _)))))
        (pss_one (ps_set (i := 4) nd rfl (.inl rfl) (pe_op op_add (pv 4) pe_int)))
        pss_nil)
        (pss_one (ps_expr (pe_bm PySem.F.plainAttrs_list PySem.F.slot_list_append PySem.F.type_list_append mt_append (pv 2) (pa_cons (pv 4) pa_nil))))))))
      (Evl.pss_cut (ps_if (PW.pt (pw_and (pt_cmpR op_gt (pe_callB call_len_seq (by rfl) mlen PySem.boot_len (pa_cons (pv 2) pa_nil)) pe_int (nomark _)) (pw_and1 (pt_cmpR op_eq (pe_call G_law_draw hr (by rfl) g_law_draw K_law_draw b_law_draw .nil pass0 (pa_cons (pv 0) (pa_cons pe_int pa_nil))) pe_int (nomark _)))))
      (pss_one (ps_asg pe_int (pg_sub (pv 2) (pe_un un_neg pe_int) set_list)))
      pss_nil)
      (pss_one (ps_ret (pe_tup (pa_cons (pe_callTy call_tuple_of (by rfl) mtuple boot_tuple (pa_cons (pv 2) pa_nil)) (pa_cons (pe_callTy SC.call_tupleF (by rfl) mtuple boot_tuple (pa_cons (pv 3) pa_nil)) pa_nil)))))))))), ?_⟩
  refine ⟨h1000 (show 1 ≤ 1000 by decide), fun mb nmb => ⟨Nat.zero_le _, fun lb nlb => ?_⟩⟩
  have s1 := same_upd (o := .lst [.int 0]) nmb
  have s2 := same_upd (o := .lst []) nlb
  have nlH : H lb = none := s1.free nlb
  have hml : mb ≠ lb := ne_of_none (show upd H mb (.lst [.int 0]) mb = some (.lst [.int 0]) from upd_same) nlb
  have hmd := D.new nmb
  have hld := D.new nlH
  have s12 := s1.trans s2
  have hsm : so ≠ mb := ne_of_none S.at' nmb
  have hsl : so ≠ lb := ne_of_none S.at' nlH
  have Z1 : Zu K d c so N T H mb lb [0] [] 0 (upd (upd H mb (.lst [.int 0])) lb (.lst [])) :=
    ⟨⟨s2 _ _ upd_same, ⟨[], upd_same, .nil⟩, fun b ob _ _ n1 n2 e => s12 _ _ e⟩, ⟨.nil, fun e he => (nomatch he), List.pairwise_singleton _ _, fun m hm => by rw [List.mem_singleton.mp hm]; exact ⟨Int.le_refl _, Int.le_refl _⟩, rfl, Int.le_refl _⟩, D.same s12, S.same s12⟩
  revert Z1
  generalize upd (upd H mb (.lst [.int 0])) lb (.lst []) = H1
  intro Z1
  -- a draw of one of four
  have pick : ∀ {H' : Hp} {ms : List Int} {es : List En} {a M n4 : Int} {Q : VK}, Zu K d c so M T H mb lb ms es a H' → M < 2 ^ 60 → 1 ≤ n4 → (∀ H'' r, 0 ≤ r → r ≤ n4 → Zu K d c so (M + 1) T H mb lb ms es a H'' → Q (.int r) H'') →
      4 ≤ sizeLine ∧ ∀ l, H' l = none → sp_pick K [.ref d, .ref l] (upd H' l (.lst [.int 0, .int 0, .int 1, .int n4])) Q E0 := fun {H' ms es a M n4 Q} Z hM p1 hQ => by
    refine ⟨h1000 (show 4 ≤ 1000 by decide), fun l nl => .inl ⟨d, c, l, M, [.int 0, .int 0, .int 1, .int n4], rfl, ?_⟩⟩
    have sl := same_upd (o := .lst [.int 0, .int 0, .int 1, .int n4]) nl
    have hl := Z.dk.new nl
    have Z' := Z.same sl hmd hld ⟨hsd, hsc⟩
    refine ⟨Z'.dk, hM, .inl (.inl upd_same), List.cons_ne_nil _ _, by show 4 ≤ 1000; decide, hl.1, hl.2, fun H'' v k D' hv => ?_⟩
    have Z'' := Z'.draw k D' hmd hld ⟨hsd, hsc⟩
    rcases List.mem_cons.mp hv with rfl | hv
    · exact hQ H'' _ (by omega) (by omega) Z''
    rcases List.mem_cons.mp hv with rfl | hv
    · exact hQ H'' _ (by omega) (by omega) Z''
    rcases List.mem_cons.mp hv with rfl | hv
    · exact hQ H'' _ (by omega) (by omega) Z''
    rw [List.mem_singleton.mp hv]
    exact hQ H'' _ (by omega) (by omega) Z''
  have hT5 := S.len
  refine ⟨.ref so, rfl, so, rfl, ⟨_, .inl (.inl Z1.sm.at')⟩, ?_⟩
  refine for_list (xs := T.map fun t => V.ref t.1) (fun i σ H' => ∃ (a : Int) (y5 y6 : Option V) (ms : List Int) (es : List En), σ = [some (.ref d), some (.ref so), some (.ref mb), some (.ref lb), some (.int a), y5, y6] ∧ Zu K d c so (N + 10 * (i : Int)) T H mb lb ms es a H' ∧ a ≤ 9000 + 21 * (i : Int) ∧ ms.length = i + 1 ∧ es.length ≤ 6 * i ∧ ms.getLast? = some a ∧ partsOf ms es = (T.take i).map tdat) ?_ ?_ ?_ ?_
  · exact ⟨0, none, none, [0], [], rfl, by rw [show N + 10 * ((0 : Nat) : Int) = N by omega]; exact Z1, by omega, rfl, Nat.zero_le _, rfl, rfl⟩
  · rintro i σ H' _ ⟨_, _, _, _, _, rfl, Z, _⟩
    exact .inl (.inl Z.sm.at')
  · rintro i x σ H2 hx ⟨a, y5, y6, ms, es, rfl, Z2, ha, hms, hes, hlast, hpar⟩
    rw [List.getElem?_map] at hx
    obtain ⟨t, ht, rfl⟩ := Option.map_eq_some_iff.mp hx
    have htm := List.mem_of_getElem? ht
    have hi : i < T.length := (List.getElem?_eq_some_iff.mp ht).1
    have ht6 := (Z2.sm.tr t htm).2.1
    refine ⟨.ref t.1, rfl, t.1, rfl, ⟨_, .inl (.inl (Z2.sm.tr t htm).1)⟩, ?_⟩
    obtain ⟨es0, hes0⟩ : ∃ es0, es0 = es := ⟨es, rfl⟩
    refine for_tup (xs := t.2.map (·.1)) (fun j σ H' => ∃ (b : Int) (y6 : Option V) (es : List En), σ = [some (.ref d), some (.ref so), some (.ref mb), some (.ref lb), some (.int b), some (.ref t.1), y6] ∧ Zu K d c so (N + 10 * (i : Int) + (j : Int)) T H mb lb ms es b H' ∧ b ≤ a + 3 * (j : Int) ∧ es.length ≤ 6 * i + j ∧ a ≤ b ∧ ∃ new : List En, es = es0 ++ new ∧ new.map enD = (t.2.take j).map (·.2) ∧ ∀ e, e ∈ new → a ≤ e.1) ?_ ?_ ?_ ?_
    · exact ⟨a, y6, es, rfl, by rw [show N + 10 * (i : Int) + ((0 : Nat) : Int) = N + 10 * (i : Int) by omega]; exact Z2, by omega, hes, Int.le_refl _, [], by rw [hes0, List.append_nil], rfl, fun e he => (nomatch he)⟩
    · rintro j σ H' _ ⟨_, _, _, rfl, Z, _⟩
      exact .inl (.inl (Z.sm.tr t htm).1)
    · rintro j x σ H3 hx ⟨b, y6, es, rfl, Z3, hb, hes3, hab, new, hen, hnew, hna⟩
      rw [List.getElem?_map] at hx
      obtain ⟨s', hs, rfl⟩ := Option.map_eq_some_iff.mp hx
      have hj : j < t.2.length := (List.getElem?_eq_some_iff.mp hs).1
      refine ⟨.int b, rfl, .ref d, rfl, pick (n4 := 2) Z3 (by omega) (by decide) fun H'' r r0 r2 Z => ?_⟩
      refine ⟨b, r, rfl, rfl, ?_⟩
      obtain ⟨rs0, hl0, he0⟩ := Z.he.hl
      refine ⟨.ref lb, rfl, .inl ⟨rfl, _, .inl (.inl hl0)⟩, .int (b + r), rfl, s'.1, rfl, h1000 (show 2 ≤ 1000 by decide), fun r' nr => ?_⟩
      have s4 := same_upd (o := .tup [.int (b + r), s'.1]) nr
      have hr4 : upd H'' r' (.tup [.int (b + r), s'.1]) r' = some (.tup [.int (b + r), s'.1]) := upd_same
      have Z4 := Z.same s4 hmd hld ⟨hsd, hsc⟩
      revert s4 hr4 Z4
      generalize upd H'' r' (.tup [.int (b + r), s'.1]) = H4
      intro s4 hr4 Z4
      have hsv := (Z4.sm.tr t htm).2.2 s' (List.mem_of_getElem? hs)
      obtain ⟨rs, hl5, hl6, h5⟩ := Z4.he.line (e := (b + r, s'.1, s'.2)) hml ⟨hr4, hsv⟩
      refine ⟨lb, _, .ref r', rfl, rfl, hl5, small1000 (by rw [List.length_map, hl6]; omega), ?_⟩
      have nu5 := (Z4.nu.more (b := b + r) (by omega)).line s'.1 s'.2
      have D5 := Z4.dk.upd (o := .lst (rs.map V.ref ++ [.ref r'])) hld.1 hld.2
      have S5 := Z4.sm.upd (zs := rs.map V.ref ++ [.ref r']) hl5 hsl
      refine ⟨.int (b + r), rfl, b + r, 1, rfl, rfl, b + r + 1, some s'.1, _, rfl, ⟨h5, nu5, ?_, S5⟩, by omega, ?_, ?_, ?_⟩
      · exact D5.mono (by omega)
      · rw [List.length_append, List.length_singleton]; omega
      · omega
      · refine ⟨new ++ [(b + r, s'.1, s'.2)], by rw [hen, List.append_assoc], ?_, fun e he => ?_⟩
        · rw [List.map_append, hnew, List.take_add_one, hs, List.map_append]
          rfl
        · rcases List.mem_append.mp he with he | he
          · exact hna e he
          · rw [List.mem_singleton.mp he]
            show a ≤ b + r
            omega
    · rintro σ H3 ⟨b, y6, es, rfl, Z3, hb, hes3, hab, new, hen, hnew, hna⟩
      rw [List.length_map] at Z3 hb hes3
      refine ⟨.int b, rfl, .ref d, rfl, pick (n4 := 3) Z3 (by omega) (by decide) fun H'' r r0 r2 Z => ?_⟩
      refine ⟨b, r, rfl, rfl, ?_⟩
      refine ⟨fun σ' H' => ∃ a' : Int, σ' = [some (.ref d), some (.ref so), some (.ref mb), some (.ref lb), some (.int a'), some (.ref t.1), y6] ∧ Zu K d c so (N + 10 * (i : Int) + 9) T H mb lb ms es a' H' ∧ a' ≤ 9000 + 21 * ((i + 1 : Nat) : Int), ?_, ?_⟩
      · have Zm : ∀ {a' H'}, Zu K d c so (N + 10 * (i : Int) + 9) T H mb lb ms es a' H' → Zu K d c so (N + 10 * (i : Int) + 9) T H mb lb ms es a' H' := fun z => z
        refine ⟨.int (b + r), rfl, b + r, 5000, rfl, rfl, _, rfl, ?_⟩
        by_cases c1 : b + r < 5000
        · rw [decide_eq_true c1]
          refine iteT ⟨.ref d, rfl, d, c, _, 8, rfl, Z.dk, by omega, by decide, by decide, fun H4 j k4 D4 j0 j8 => ⟨rfl, _, rfl, ?_⟩⟩
          have Z4 := Z.draw k4 D4 hmd hld ⟨hsd, hsc⟩
          rw [dec_int]
          cases (j == 5) with
          | true => exact iteT ⟨.int (b + r), rfl, b + r, 4000, rfl, rfl, b + r + 4000, rfl, ⟨Z4.he, Z4.nu.more (by omega), Z4.dk.mono (by omega), Z4.sm⟩, by omega⟩
          | false => exact iteF ⟨b + r, rfl, ⟨Z4.he, Z4.nu.more (by omega), Z4.dk.mono (by omega), Z4.sm⟩, by omega⟩
        · rw [decide_eq_false c1]
          exact iteF ⟨b + r, rfl, ⟨Z.he, Z.nu.more (by omega), Z.dk.mono (by omega), Z.sm⟩, by omega⟩
      · rintro σ' H4 ⟨a', rfl, Z4, ha'⟩
        refine ⟨.ref mb, rfl, .inl ⟨rfl, _, .inl (.inl Z4.he.hm)⟩, .int a', rfl, mb, _, .int a', rfl, rfl, Z4.he.hm, small1000 (by rw [List.length_map]; omega), ?_⟩
        have hm5 := Z4.he.marks (ms' := ms ++ [a']) hml
        rw [List.map_append] at hm5
        refine ⟨a', some (.ref t.1), y6, ms ++ [a'], es, rfl, ⟨hm5, Z4.nu.mark, (Z4.dk.upd hmd.1 hmd.2).mono (by omega), Z4.sm.upd Z4.he.hm hsm⟩, ha', by rw [List.length_append, hms]; rfl, by omega, by rw [List.getLast?_append]; rfl, ?_⟩
        rw [hen, parts_one hlast (fun m hm => (Z2.nu.le m hm).2) (fun e he => (Z2.nu.lt e (hes0 ▸ he)).2) (fun e he => ⟨hna e he, (Z4.nu.lt e (by rw [hen]; exact List.mem_append_right _ he)).2⟩), hes0, hpar, hnew, List.take_add_one, ht, List.map_append]
        show _ = List.map tdat (List.take i T) ++ [t.2.map (·.2)]
        rw [List.length_map, List.take_length]
  · rintro σ H2 ⟨a, y5, y6, ms, es, rfl, Z2, ha, hms, hes, hlast, hpar⟩
    rw [List.length_map] at Z2 ha hms hes hpar
    rw [List.take_length] at hpar
    refine ⟨fun σ' H' => ∃ ms' : List Int, σ' = [some (.ref d), some (.ref so), some (.ref mb), some (.ref lb), some (.int a), y5, y6] ∧ He K d c H mb lb ms' es H' ∧ Deck H' d c (N + 99) ∧ OkL ms' es ∧ partsOf ms' es = T.map tdat ∧ (∀ e, e ∈ es → ∃ m, m ∈ ms' ∧ e.1 < m), ?_, ?_⟩
    · refine ⟨.ref mb, rfl, mb, _, rfl, .inl (.inl (.inl Z2.he.hm)), _, 1, rfl, rfl, _, rfl, ?_⟩
      rw [List.length_map, hms]
      by_cases c1 : (1 : Int) < ((T.length + 1 : Nat) : Int)
      · rw [decide_eq_true c1]
        refine iteT ⟨.ref d, rfl, d, c, _, 8, rfl, Z2.dk, by omega, by decide, by decide, fun H4 j k4 D4 j0 j8 => ⟨rfl, _, rfl, ?_⟩⟩
        have Z4 := Z2.draw k4 D4 hmd hld ⟨hsd, hsc⟩
        rw [dec_int]
        cases (j == 5) with
        | true =>
          refine iteT ⟨.ref mb, rfl, 1, rfl, mb, _, -1, T.length, rfl, rfl, Z4.he.hm, ?_, ?_⟩
          · rw [List.length_map, hms]
            unfold ixN
            rw [if_neg (by decide), if_pos (by omega)]
            congr 1
            omega
          · have e1 : (ms.map V.int).set T.length (.int 10000) = (ms.set T.length 10000).map V.int := (List.map_set).symm
            rw [e1]
            have hl' := Z4.nu.last (by omega) (by omega) (by omega) (by omega)
            rw [hms, Nat.add_sub_cancel] at hl'
            exact ⟨_, rfl, Z4.he.marks hml, (Z4.dk.upd hmd.1 hmd.2).mono (by omega), hl', by have := parts_last hlast (fun e he => (Z2.nu.lt e he).2) (show a ≤ 10000 by omega); rw [hms, Nat.add_sub_cancel] at this; rw [this, hpar], fun e he => ⟨10000, List.mem_of_getElem? (List.getElem?_set_self (by omega)), by have := (Z2.nu.lt e he).2; omega⟩⟩
        | false => exact iteF ⟨ms, rfl, Z4.he, Z4.dk.mono (by omega), Z4.nu.ok (by omega) (by omega) (by omega), hpar, fun e he => ⟨a, List.mem_of_getLast? hlast, (Z2.nu.lt e he).2⟩⟩
      · rw [decide_eq_false c1]
        exact iteF ⟨ms, rfl, Z2.he, Z2.dk.mono (by omega), Z2.nu.ok (by omega) (by omega) (by omega), hpar, fun e he => ⟨a, List.mem_of_getLast? hlast, (Z2.nu.lt e he).2⟩⟩
    · rintro σ' H3 ⟨ms', rfl, h3, D3, ok, hp1, hp2⟩
      obtain ⟨rs, hl0, he0⟩ := h3.hl
      refine ⟨.ref mb, rfl, mb, _, rfl, .inl ⟨.inl (.inl h3.hm), fun mp nmp => ?_⟩⟩
      have s3 := same_upd (o := .tup (ms'.map V.int)) nmp
      refine ⟨.ref lb, rfl, lb, _, rfl, .inl (.inl (s3 _ _ hl0)), fun ep o ho nep => ⟨h1000 (show 2 ≤ 1000 by decide), fun p np => ?_⟩⟩
      have s4 := same_upd (o := .frz o (.tup (rs.map V.ref))) nep
      have s5 := same_upd (o := .tup [.ref mp, .ref ep]) np
      have s345 := (s3.trans s4).trans s5
      refine q _ p ms' es (fun b ob n1 n2 e => s345 _ _ (h3.old b ob n1 n2 (ne_of_none e nmb) (ne_of_none e nlH) e)) ((D3.same s345).mono (by omega)) ⟨mp, ep, rs, upd_same, (s4.trans s5) _ _ upd_same, ⟨o, s5 _ _ upd_same, ho⟩, ens_keep (KeepT.of s345) he0⟩ ok hp1 hp2
end
end L19

namespace L19
open PySem PySem.Spec PyProof.Rows L2 GR
abbrev aggs : List (Str × Nat) := [("count", 2), ("sum", 3), ("most", 4), ("first", 3)]
abbrev opws : List Str := ["+", "-", "*", "<", "=", "at"]
/-- one that contains none -/
inductive Leaf (zs : List Str) : PyData → Prop
  | int (i : Int) : -(10 ^ 18) ≤ i → i ≤ 10 ^ 18 → Leaf zs (.tuple [.str "int", .int i])
  | let_ (i : Int) : 0 ≤ i → i ≤ 10000 → Leaf zs (.tuple [.str "let", .int i])
  | key : Leaf zs (.tuple [.str "key"])
  | var (z : Str) : z ∈ zs → Leaf zs (.tuple [.str "var", .str z])
/-- an expression of depth n at most; its names are among zs -/
inductive Ex (zs : List Str) : Nat → PyData → Prop
  | leaf (n : Nat) (x : PyData) : Leaf zs x → Ex zs (n + 1) x
  | cell (n : Nat) (t v : Str) (x : PyData) : t ∈ zs → v ∈ zs → Ex zs n x → Ex zs (n + 1) (.tuple [.str "cell", .str t, x, .str v])
  | op (n : Nat) (o : Str) (x y : PyData) : o ∈ opws → Ex zs n x → Ex zs n y → Ex zs (n + 1) (.tuple [.str o, x, y])
  | iff (n : Nat) (x y z : PyData) : Ex zs n x → Ex zs n y → Ex zs n z → Ex zs (n + 1) (.tuple [.str "if", x, y, z])
  | agg (n : Nat) (o t : Str) (xs ys : List PyData) : (o, ys.length) ∈ aggs → t ∈ zs → xs.length ≤ 2 → (∀ x, x ∈ xs → Ex zs n x) → (∀ y, y ∈ ys → Ex zs n y) → Ex zs (n + 1) (.tuple (.str o :: .str t :: .tuple xs :: ys))
theorem Ex.mono {zs : List Str} : ∀ {n m : Nat} {x : PyData}, Ex zs n x → n ≤ m → Ex zs m x := by
  intro n m x h
  induction h generalizing m with
  | leaf n x h =>
    intro hm
    obtain ⟨k, rfl⟩ : ∃ k, m = k + 1 := ⟨m - 1, by omega⟩
    exact .leaf k x h
  | cell n t v x h1 h2 h3 ih =>
    intro hm
    obtain ⟨k, rfl⟩ : ∃ k, m = k + 1 := ⟨m - 1, by omega⟩
    exact .cell k t v x h1 h2 (ih (by omega))
  | op n o x y h1 h2 h3 ih1 ih2 =>
    intro hm
    obtain ⟨k, rfl⟩ : ∃ k, m = k + 1 := ⟨m - 1, by omega⟩
    exact .op k o x y h1 (ih1 (by omega)) (ih2 (by omega))
  | iff n x y z h1 h2 h3 ih1 ih2 ih3 =>
    intro hm
    obtain ⟨k, rfl⟩ : ∃ k, m = k + 1 := ⟨m - 1, by omega⟩
    exact .iff k x y z (ih1 (by omega)) (ih2 (by omega)) (ih3 (by omega))
  | agg n o t xs ys h1 h2 h3 h4 h5 ih1 ih2 =>
    intro hm
    obtain ⟨k, rfl⟩ : ∃ k, m = k + 1 := ⟨m - 1, by omega⟩
    exact .agg k o t xs ys h1 h2 h3 (fun x hx => ih1 x hx (by omega)) (fun y hy => ih2 y hy (by omega))
theorem Ex.flat {zs : List Str} : ∀ {n : Nat} {x : PyData}, Ex zs n x → flatD x = true := by
  intro n x h
  induction h with
  | leaf n x h => cases h <;> simp only [flatD, flatDs, Bool.and_self]
  | cell n t v x h1 h2 h3 ih => simp only [flatD, flatDs, ih, Bool.and_self]
  | op n o x y h1 h2 h3 ih1 ih2 => simp only [flatD, flatDs, ih1, ih2, Bool.and_self]
  | iff n x y z h1 h2 h3 ih1 ih2 ih3 => simp only [flatD, flatDs, ih1, ih2, ih3, Bool.and_self]
  | agg n o t xs ys h1 h2 h3 h4 h5 ih1 ih2 => simp only [flatD, flatDs, flatDs_of ih1, flatDs_of ih2, Bool.and_self]
end L19

namespace L19
open PySem PySem.Spec PyProof.Rows L2 GR
/-- what stands behind each word -/
def table : List (Str × List Str) := [("int", ["value"]), ("var", ["name"]), ("key", []), ("let", ["position"]), ("cell", ["name", "free", "name"]), ("+", ["free", "free"]), ("-", ["free", "free"]), ("*", ["free", "free"]), ("<", ["free", "free"]), ("=", ["free", "free"]),
  ("if", ["free", "free", "free"]), ("at", ["free", "bound"]), ("count", ["name", "extra", "bound", "bound"]), ("sum", ["name", "extra", "bound", "bound", "bound"]), ("most", ["name", "extra", "bound", "bound", "bound", "free"]), ("first", ["name", "extra", "bound", "bound", "free"])]
def items : PyData → List PyData
  | .tuple xs => xs
  | _ => []
def pick (wanted : List Str) : List Str → List PyData → List PyData
  | f :: fs, d :: ds => (if f = "extra" then items d else if f ∈ wanted then [d] else []) ++ pick wanted fs ds
  | _, _ => []
/-- what stands behind the word fits its kinds, as far as contained_of asks -/
inductive Fits : List Str → List PyData → Prop
  | nil : Fits [] []
  | cons {f : Str} {d : PyData} {fs : List Str} {ds : List PyData} : (f = "extra" → ∃ xs, d = .tuple xs) → Fits fs ds → Fits (f :: fs) (d :: ds)
/-- the form of an expression -/
def Form (x : PyData) (w : Str) (fs : List Str) (rest : List PyData) : Prop := x = .tuple (.str w :: rest) ∧ (w, fs) ∈ table ∧ Fits fs rest
theorem fit1 {f : Str} {d : PyData} {fs : List Str} {ds : List PyData} (h : f ≠ "extra") (t : Fits fs ds) : Fits (f :: fs) (d :: ds) := .cons (fun e => absurd e h) t
theorem Ex.form {zs : List Str} {n : Nat} {x : PyData} (h : Ex zs n x) : ∃ w fs rest, Form x w fs rest := by
  cases h with
  | leaf n x h =>
    cases h with
    | int i _ _ => exact ⟨"int", ["value"], _, rfl, by decide, fit1 (by decide) .nil⟩
    | let_ i _ _ => exact ⟨"let", ["position"], _, rfl, by decide, fit1 (by decide) .nil⟩
    | key => exact ⟨"key", [], _, rfl, by decide, .nil⟩
    | var z _ => exact ⟨"var", ["name"], _, rfl, by decide, fit1 (by decide) .nil⟩
  | cell n t v x h1 h2 h3 => exact ⟨"cell", ["name", "free", "name"], _, rfl, by decide, fit1 (by decide) (fit1 (by decide) (fit1 (by decide) .nil))⟩
  | op n o x y h1 h2 h3 =>
    simp only [opws, List.mem_cons, List.not_mem_nil, or_false] at h1
    rcases h1 with rfl | rfl | rfl | rfl | rfl | rfl
    · exact ⟨_, ["free", "free"], _, rfl, by decide, fit1 (by decide) (fit1 (by decide) .nil)⟩
    · exact ⟨_, ["free", "free"], _, rfl, by decide, fit1 (by decide) (fit1 (by decide) .nil)⟩
    · exact ⟨_, ["free", "free"], _, rfl, by decide, fit1 (by decide) (fit1 (by decide) .nil)⟩
    · exact ⟨_, ["free", "free"], _, rfl, by decide, fit1 (by decide) (fit1 (by decide) .nil)⟩
    · exact ⟨_, ["free", "free"], _, rfl, by decide, fit1 (by decide) (fit1 (by decide) .nil)⟩
    · exact ⟨_, ["free", "bound"], _, rfl, by decide, fit1 (by decide) (fit1 (by decide) .nil)⟩
  | iff n x y z h1 h2 h3 => exact ⟨"if", ["free", "free", "free"], _, rfl, by decide, fit1 (by decide) (fit1 (by decide) (fit1 (by decide) .nil))⟩
  | agg n o t xs ys h1 h2 h3 h4 h5 =>
    have tl : ∀ d : PyData, (("extra" : Str) = "extra" → ∃ us, d = .tuple us) ∨ True := fun _ => .inr trivial
    simp only [aggs, List.mem_cons, List.not_mem_nil, or_false, Prod.mk.injEq] at h1
    rcases h1 with ⟨rfl, h⟩ | ⟨rfl, h⟩ | ⟨rfl, h⟩ | ⟨rfl, h⟩
    · match ys, h with
      | [_, _], _ => exact ⟨_, ["name", "extra", "bound", "bound"], _, rfl, by decide, fit1 (by decide) (.cons (fun _ => ⟨xs, rfl⟩) (fit1 (by decide) (fit1 (by decide) .nil)))⟩
    · match ys, h with
      | [_, _, _], _ => exact ⟨_, ["name", "extra", "bound", "bound", "bound"], _, rfl, by decide, fit1 (by decide) (.cons (fun _ => ⟨xs, rfl⟩) (fit1 (by decide) (fit1 (by decide) (fit1 (by decide) .nil))))⟩
    · match ys, h with
      | [_, _, _, _], _ => exact ⟨_, ["name", "extra", "bound", "bound", "bound", "free"], _, rfl, by decide, fit1 (by decide) (.cons (fun _ => ⟨xs, rfl⟩) (fit1 (by decide) (fit1 (by decide) (fit1 (by decide) (fit1 (by decide) .nil)))))⟩
    · match ys, h with
      | [_, _, _], _ => exact ⟨_, ["name", "extra", "bound", "bound", "free"], _, rfl, by decide, fit1 (by decide) (.cons (fun _ => ⟨xs, rfl⟩) (fit1 (by decide) (fit1 (by decide) (fit1 (by decide) .nil))))⟩
/-- the written table at fA -/
def Flds (K : PySem.W.Frag) (w : World) (fA : Addr) : Prop := ∀ wd fs, (wd, fs) ∈ table → ∃ p, KDct K w fA wd (.ref p) ∧ ∀ H, SqT K H p (fs.map V.str)
end L19
namespace L19
open PySem PySem.Spec PyProof.Rows L2 GR
/-- what one field gives -/
def pick1 (wanted : List Str) (f : Str) (d : PyData) : List PyData := if f = "extra" then items d else if f ∈ wanted then [d] else []
theorem pick_take (W : List Str) : ∀ {fs : List Str} {ds : List PyData} (i : Nat) {f : Str} {d : PyData}, fs[i]? = some f → ds[i]? = some d → pick W (fs.take (i + 1)) (ds.take (i + 1)) = pick W (fs.take i) (ds.take i) ++ pick1 W f d
  | f0 :: fs, d0 :: ds, 0, f, d, hf, hd => by
    cases hf
    cases hd
    simp only [List.take_succ_cons, List.take_zero, pick, pick1, List.append_nil, List.nil_append]
  | f0 :: fs, d0 :: ds, i + 1, f, d, hf, hd => by
    rw [List.getElem?_cons_succ] at hf hd
    have := pick_take W i hf hd
    simp only [List.take_succ_cons, pick]
    rw [this, List.append_assoc]
  | [], _, _, _, _, hf, _ => by simp at hf
  | _ :: _, [], _, _, _, _, hd => by simp at hd
theorem pick_len (W : List Str) : ∀ {fs : List Str} {ds : List PyData} (i : Nat), (pick W (fs.take i) (ds.take i)).length ≤ (pick W fs ds).length
  | f0 :: fs, d0 :: ds, 0 => by simp only [List.take_zero, pick]; exact Nat.zero_le _
  | f0 :: fs, d0 :: ds, i + 1 => by
    have := pick_len W (fs := fs) (ds := ds) i
    simp only [List.take_succ_cons, pick, List.length_append]
    omega
  | [], ds, i => by simp only [List.take_nil, pick]; exact Nat.zero_le _
  | f0 :: fs, [], i => by
    simp only [List.take_nil]
    cases fs.take i <;> cases i <;> simp [pick]
theorem flatDs_at : ∀ {ds : List PyData} {i : Nat} {d : PyData}, flatDs ds = true → ds[i]? = some d → flatD d = true
  | d0 :: ds, 0, d, h, e => by
    cases e
    rw [flatDs, Bool.and_eq_true] at h
    exact h.1
  | d0 :: ds, i + 1, d, h, e => by
    rw [flatDs, Bool.and_eq_true] at h
    rw [List.getElem?_cons_succ] at e
    exact flatDs_at h.2 e
  | [], _, _, _, e => by simp at e
theorem flat_pick1 {W : List Str} {f : Str} {d : PyData} (h : flatD d = true) : flatDs (pick1 W f d) = true := by
  unfold pick1
  split
  · cases d <;> simp only [items, flatDs]
    rw [flatD] at h
    exact h
  · split
    · rw [flatDs, h, flatDs]
      rfl
    · rw [flatDs]
theorem flat_pick {W : List Str} : ∀ {fs : List Str} {ds : List PyData}, flatDs ds = true → flatDs (pick W fs ds) = true
  | f :: fs, d :: ds, h => by
    rw [flatDs, Bool.and_eq_true] at h
    exact flatDs_append (flat_pick1 (W := W) (f := f) h.1) (flat_pick h.2)
  | [], _, _ => by simp only [pick, flatDs]
  | _ :: _, [], _ => by simp only [pick, flatDs]
theorem flatDs_take {ds : List PyData} (i : Nat) (h : flatDs ds = true) : flatDs (ds.take i) = true := by
  induction ds generalizing i with
  | nil => simp only [List.take_nil, flatDs]
  | cons d ds ih =>
    rw [flatDs, Bool.and_eq_true] at h
    cases i with
    | zero => simp only [List.take_zero, flatDs]
    | succ i =>
      rw [List.take_succ_cons, flatDs, h.1, ih i h.2]
      rfl
theorem Fits.len {fs : List Str} {ds : List PyData} (h : Fits fs ds) : fs.length = ds.length := by
  induction h with
  | nil => rfl
  | cons _ _ ih => rw [List.length_cons, List.length_cons, ih]
theorem Fits.at' {fs : List Str} {ds : List PyData} (h : Fits fs ds) : ∀ {i : Nat} {d : PyData}, fs[i]? = some ("extra" : Str) → ds[i]? = some d → ∃ xs, d = .tuple xs := by
  induction h with
  | nil =>
    intro i d e
    simp at e
  | cons h1 h2 ih =>
    intro i d e1 e2
    cases i with
    | zero =>
      simp only [List.getElem?_cons_zero, Option.some.injEq] at e1 e2
      obtain ⟨xs, rfl⟩ := h1 e1
      exact ⟨xs, e2.symm⟩
    | succ i =>
      rw [List.getElem?_cons_succ] at e1 e2
      exact ih e1 e2
end L19

namespace L19
open PySem PySem.Spec PyProof.Rows L2 GR WX RZ
section
variable {P : Program} {w : World} {K : PySem.W.Frag} {mg : Str → Option Value} {base : Heap}
abbrev s_contained_of : Stmt := topS 5
theorem sc_contained_of : FnScope ["expression", "wanted", "found", "kind", "part"] ["expression", "wanted"] (defScope s_contained_of) := ⟨rfl, rfl, rfl, by decide +kernel, rfl, by decide +kernel, by decide +kernel⟩
def sp_contained_of (K : PySem.W.Frag) : Sp := fun vs H Q _ => ∃ (a wA : Addr) (wd : Str) (fs wanted : List Str) (rest : List PyData), vs = [.ref a, .ref wA] ∧ Dp K H (.ref a) (.tuple (.str wd :: rest)) ∧ (wd, fs) ∈ table ∧ Fits fs rest ∧ flatDs rest = true ∧ (pick wanted fs rest).length ≤ 1000 ∧ SqT K H wA (wanted.map V.str) ∧
  ∀ H' p us, Same H H' → H p = none → H' p = some (.lst us) → DpAll K H' us (pick wanted fs rest) → Q (.ref p) H'
theorem wanted_in (f : Str) (W : List Str) : inV (.str f) (W.map V.str) = decide (f ∈ W) := by
  unfold inV
  rw [List.any_map, Bool.eq_iff_iff, List.any_eq_true, decide_eq_true_eq]
  constructor
  · rintro ⟨z, hz, e⟩
    have : eqV (.str z) (.str f) = true := e
    have e2 : z = f := by
      simpa [eqV] using this
    exact e2 ▸ hz
  · intro h
    exact ⟨f, h, by show eqV (.str f) (.str f) = true; simp [eqV]⟩
theorem flat_strs (W : List Str) : (W.map V.str).all flatV = true := by
  rw [List.all_map, List.all_eq_true]
  intro z _
  rfl
theorem ok_contained_of {f fA : Addr} {fd : FuncData} {k : Nat} (F : Fun K "contained_of" "contained_of" s_contained_of f fd) (mFIELDS : mg "FIELDS" = some (.ref fA)) (T : Flds K w fA) (mzip : mg "zip" = none) :
    FnOk P w K mg base CX0 (k + 1) f fd ["expression", "wanted"] (sp_contained_of K) := by
  have nd := sc_contained_of.nd
  refine F.ok sc_contained_of (fun vs H Q E h => ?_) (fun cdv A outer s H vs Q E hr h => ?_)
  · obtain ⟨a, wA, wd, fs, wanted, rest, rfl, _⟩ := h
    rfl
  obtain ⟨a, wA, wd, fs, wanted, rest, rfl, hd, ht, hfit, hflat, hlen, hW, q⟩ := h
  refine ⟨_, (pss_cons (ps_set (i := 2) nd rfl (.inl rfl) (pe_lst pa_nil))
      (pss_cons (ps_for PassesOwn.never rfl (pi_zipA (by rfl) mzip (pa_cons (pe_ix ix_kdict (pe_glob rfl mFIELDS (v := .ref fA) rfl) (pe_ix ix_tup (pv 0) pe_int (fun _ _ => rfl)) (fun _ _ => rfl)) (pa_cons (pe_slice L2.sl_tup (pv 0) (po_some pe_int) po_none) pa_nil))) (pg_tup rfl (pgs_cons (pg_name (i := 3) nd rfl (Or.inl rfl)) (pgs_cons (pg_name (i := 4) nd rfl (Or.inl rfl)) pgs_nil)))
      (pss_one (ps_if (pt_cmpR op_eq (pv 3) pe_str (nomark _))
        (pss_one (ps_expr (pe_bm PySem.F.plainAttrs_list PySem.F.slot_list_extend PySem.F.type_list_extend mt_extendT (pv 2) (pa_cons (pv 4) pa_nil))))
        (pss_one (ps_if (pt_cmpR op_in_seq (pv 3) (pv 1) (by rfl))
          (pss_one (ps_expr (pe_bm PySem.F.plainAttrs_list PySem.F.slot_list_append PySem.F.type_list_append mt_append (pv 2) (pa_cons (pv 4) pa_nil))))
          pss_nil)))))
      (pss_one (ps_ret (pv 2))))), ?_⟩
  cases hd with
  | tup hS hA =>
  cases hA with
  | cons hw hA =>
  cases hw
  rename_i vs0
  obtain ⟨fp, hK, hF⟩ := T wd fs ht
  have hl0 := dpAll_len hA
  refine ⟨Nat.zero_le _, fun fo nfo => ?_⟩
  have sf := same_upd (o := .lst []) nfo
  refine ⟨.ref a, rfl, a, _, 0, .str wd, rfl, rfl, (KeepT.of sf).seqt hS, at0, fA, wd, .ref fp, rfl, rfl, hK, .ref a, rfl, 1, rfl, a, _, rfl, (KeepT.of sf).seqt hS, ?_, fun c nc => ?_⟩
  · rw [List.length_cons]
    rintro ⟨e, _⟩
    have : HT.sIx (vs0.length + 1) 0 (some 1) = min 1 (vs0.length + 1) := HT.sIx_nat _ _ 1
    rw [this] at e
    omega
  have hcut : cutV (.str wd :: vs0) (some 1) none = vs0 := by
    unfold cutV
    rw [HT.sIx_none, show HT.sIx (V.str wd :: vs0).length 0 (some 1) = min 1 (V.str wd :: vs0).length from HT.sIx_nat _ _ 1, List.length_cons, show min 1 (vs0.length + 1) = 1 by omega, List.drop_succ_cons, List.drop_zero, show vs0.length + 1 - 1 = vs0.length by omega, List.take_length]
  rw [hcut]
  have sc := same_upd (o := .tup vs0) nc
  have hc1 : upd (upd H fo (.lst [])) c (.tup vs0) c = some (.tup vs0) := upd_same
  have hf1 := sc _ _ (show upd H fo (.lst []) fo = _ from upd_same)
  have s2 := sf.trans sc
  revert hc1 hf1 s2
  generalize upd (upd H fo (.lst [])) c (.tup vs0) = H1
  intro hc1 hf1 s2
  have hl : (fs.map V.str).length = vs0.length := by rw [List.length_map, hfit.len, hl0]
  refine ⟨fp, c, fs.map V.str, vs0, rfl, .inr ⟨hF H1, .inl (.inl hc1), ?_⟩⟩
  refine for_zipT hl (fun i σ H' => ∃ (y3 y4 : Option V) (us : List V), σ = [some (.ref a), some (.ref wA), some (.ref fo), y3, y4] ∧ H' fo = some (.lst us) ∧ DpAll K H' us (pick wanted (fs.take i) (rest.take i)) ∧ (∀ b o, b ≠ fo → H1 b = some o → H' b = some o)) ?_ ?_ ?_ ?_
  · refine ⟨none, none, [], rfl, hf1, ?_, fun b o _ e => e⟩
    simp only [List.take_zero, pick]
    exact .nil
  · rintro i σ H' ⟨y3, y4, us, rfl, hu, hdp, kk⟩
    exact ⟨hF H', .inl (.inl (kk _ _ (ne_of hc1 hf1 (fun z => by cases z)) hc1))⟩
  · rintro i x y t σ H' hx hy ⟨y3, y4, us, rfl, hu, hdp, kk⟩ nt
    rw [List.getElem?_map] at hx
    obtain ⟨fi, hfi, rfl⟩ : ∃ fi, fs[i]? = some fi ∧ x = .str fi := by
      cases e : fs[i]? with
      | none =>
        rw [e] at hx
        cases hx
      | some fi =>
        rw [e] at hx
        cases hx
        exact ⟨fi, rfl, rfl⟩
    obtain ⟨di, hdi, hyd⟩ := dpAll_at hA hy
    have st := same_upd (o := .tup [.str fi, y]) nt
    have kt : KeepT H (upd H' t (.tup [.str fi, y])) := ⟨fun b xs e => st _ _ (kk _ _ (ne_of_none e nfo) (s2 _ _ e)), fun b o xs e => st _ _ (kk _ _ (ne_of_none e nfo) (s2 _ _ e))⟩
    have fdi := flatDs_at hflat hdi
    have hyd2 := dp_keep kt _ _ fdi hyd
    have hu2 := st _ _ hu
    have ntf : t ≠ fo := (ne_of_none hu nt).symm
    have hp : pick wanted (fs.take (i + 1)) (rest.take (i + 1)) = pick wanted (fs.take i) (rest.take i) ++ pick1 wanted fi di := pick_take wanted i hfi hdi
    have hl2 := pick_len wanted (fs := fs) (ds := rest) (i + 1)
    have hlu := dpAll_len hdp
    have fpk : flatDs (pick wanted (fs.take i) (rest.take i)) = true := flat_pick (flatDs_take i hflat)
    rw [hp, List.length_append] at hl2
    -- what is put behind us
    have turn : ∀ zs' : List V, DpAll K (upd H' t (.tup [.str fi, y])) zs' (pick1 wanted fi di) → ∃ (z3 z4 : Option V) (us' : List V), [some (.ref a), some (.ref wA), some (.ref fo), some (.str fi), some y] = [some (.ref a), some (.ref wA), some (.ref fo), z3, z4] ∧
        upd (upd H' t (.tup [.str fi, y])) fo (.lst (us ++ zs')) fo = some (.lst us') ∧ DpAll K (upd (upd H' t (.tup [.str fi, y])) fo (.lst (us ++ zs'))) us' (pick wanted (fs.take (i + 1)) (rest.take (i + 1))) ∧ (∀ b o, b ≠ fo → H1 b = some o → upd (upd H' t (.tup [.str fi, y])) fo (.lst (us ++ zs')) b = some o) := by
      intro zs' hz
      have k2 : KeepT (upd H' t (.tup [.str fi, y])) (upd (upd H' t (.tup [.str fi, y])) fo (.lst (us ++ zs'))) := KeepT.lst hu2
      refine ⟨_, _, us ++ zs', rfl, upd_same, ?_, fun b o hb e => ?_⟩
      · rw [hp]
        exact dpAll_append (dp_keepAll ((KeepT.of st).trans k2) _ _ fpk hdp) (dp_keepAll k2 _ _ (flat_pick1 fdi) hz)
      · rw [upd_ne hb]
        exact st _ _ (kk b o hb e)
    refine ⟨t, [.str fi, y], rfl, .inl (.inl upd_same), rfl, _, _, rfl, _, _, rfl, rfl, ?_⟩
    refine ⟨.str fi, rfl, rfl, _, rfl, ite2 (fun e1 => ?_) (fun e1 => ?_)⟩
    · have e1 : fi = "extra" := by simpa using e1
      subst e1
      obtain ⟨xs, rfl⟩ := hfit.at' hfi hdi
      cases hyd2 with
      | tup hys hyA =>
      rename_i ya zs'
      have hz := dpAll_len hyA
      refine ⟨.ref fo, rfl, .inl ⟨rfl, _, .inl (.inl hu2)⟩, .ref ya, rfl, fo, ya, us, zs', rfl, rfl, hu2, hys, ?_, turn zs' ?_⟩
      · rw [hlu, hz]
        unfold pick1 at hl2
        rw [if_pos rfl, items] at hl2
        exact small_le (by omega)
      · unfold pick1
        rw [if_pos rfl]
        exact hyA
    · have e1 : fi ≠ "extra" := fun z => e1 (by simpa using z)
      refine ⟨.str fi, rfl, .ref wA, rfl, wA, wanted.map V.str, rfl, .inr ((KeepT.trans ⟨fun b xs e => kk _ _ (ne_of_none e nfo) (s2 _ _ e), fun b o xs e => kk _ _ (ne_of_none e nfo) (s2 _ _ e)⟩ (KeepT.of st)).seqt hW), rfl, flat_strs wanted, _, rfl, ?_⟩
      rw [wanted_in]
      refine ite2 (fun e2 => ?_) (fun e2 => ?_)
      · have e2 : fi ∈ wanted := by simpa using e2
        refine ⟨.ref fo, rfl, .inl ⟨rfl, _, .inl (.inl hu2)⟩, y, rfl, fo, _, _, rfl, rfl, hu2, ?_, turn [y] ?_⟩
        · rw [hlu]
          exact small1000 (by omega)
        · unfold pick1
          rw [if_neg e1, if_pos e2]
          exact .cons hyd2 .nil
      · have e2 : fi ∉ wanted := fun z => e2 (by simpa using z)
        refine ⟨_, _, us, rfl, hu2, ?_, fun b o hb e => st _ _ (kk b o hb e)⟩
        rw [hp]
        unfold pick1
        rw [if_neg e1, if_neg e2, List.append_nil]
        exact dp_keepAll (KeepT.of st) _ _ fpk hdp
  · rintro σ H' ⟨y3, y4, us, rfl, hu, hdp, kk⟩
    have e1 : fs.take (fs.map V.str).length = fs := by rw [List.length_map, List.take_length]
    have e2 : rest.take (fs.map V.str).length = rest := by rw [List.length_map, hfit.len, List.take_length]
    rw [e1, e2] at hdp
    refine ⟨.ref fo, rfl, q H' fo us (fun b o e => kk _ _ (ne_of_none e nfo) (s2 _ _ e)) nfo hu hdp⟩
end
end L19

namespace L19
open PySem PySem.Spec PyProof.Rows L2 GR
abbrev W2 : List Str := ["free", "bound"]
def fieldsOf (w : Str) : List Str := ((table.find? fun p => decide (p.1 = w)).map (·.2)).getD []
/-- what an expression contains directly -/
def kids : PyData → List PyData
  | .tuple (.str w :: rest) => pick W2 (fieldsOf w) rest
  | _ => []
theorem fieldsOf_table : ∀ p, p ∈ table → fieldsOf p.1 = p.2 := by decide
theorem Form.kids {x : PyData} {w : Str} {fs : List Str} {rest : List PyData} (h : Form x w fs rest) : kids x = pick W2 fs rest := by
  obtain ⟨rfl, ht, _⟩ := h
  show pick W2 (fieldsOf w) rest = _
  rw [show fieldsOf w = fs from fieldsOf_table (w, fs) ht]
theorem kids_of {w : Str} {fs : List Str} {rest : List PyData} (ht : (w, fs) ∈ table) : kids (.tuple (.str w :: rest)) = pick W2 fs rest := by
  show pick W2 (fieldsOf w) rest = _
  rw [show fieldsOf w = fs from fieldsOf_table (w, fs) ht]
theorem p_no {f : Str} {d : PyData} {fs : List Str} {ds : List PyData} (h : f ≠ "extra") (h2 : f ∉ W2) : pick W2 (f :: fs) (d :: ds) = pick W2 fs ds := by
  simp only [pick, if_neg h, if_neg h2, List.nil_append]
theorem p_yes {f : Str} {d : PyData} {fs : List Str} {ds : List PyData} (h : f ≠ "extra") (h2 : f ∈ W2) : pick W2 (f :: fs) (d :: ds) = d :: pick W2 fs ds := by
  simp only [pick, if_neg h, if_pos h2, List.cons_append, List.nil_append]
theorem p_ex {xs : List PyData} {fs : List Str} {ds : List PyData} : pick W2 ("extra" :: fs) (.tuple xs :: ds) = xs ++ pick W2 fs ds := by
  simp only [pick, if_pos, items]
theorem p_nil : pick W2 [] [] = [] := rfl
/-- the parts contained, by the form -/
theorem kids_leaf {zs : List Str} {x : PyData} (h : Leaf zs x) : kids x = [] := by
  cases h with
  | int i _ _ => rw [kids_of (fs := ["value"]) (by decide), p_no (by decide) (by decide), p_nil]
  | let_ i _ _ => rw [kids_of (fs := ["position"]) (by decide), p_no (by decide) (by decide), p_nil]
  | key => rw [kids_of (fs := []) (by decide), p_nil]
  | var z _ => rw [kids_of (fs := ["name"]) (by decide), p_no (by decide) (by decide), p_nil]
theorem kids_cell {t v : Str} {x : PyData} : kids (.tuple [.str "cell", .str t, x, .str v]) = [x] := by
  rw [kids_of (fs := ["name", "free", "name"]) (by decide), p_no (by decide) (by decide), p_yes (by decide) (by decide), p_no (by decide) (by decide), p_nil]
theorem kids_if {x y z : PyData} : kids (.tuple [.str "if", x, y, z]) = [x, y, z] := by
  rw [kids_of (fs := ["free", "free", "free"]) (by decide), p_yes (by decide) (by decide), p_yes (by decide) (by decide), p_yes (by decide) (by decide), p_nil]
theorem kids_op {o : Str} {x y : PyData} (h : o ∈ opws) : kids (.tuple [.str o, x, y]) = [x, y] := by
  simp only [opws, List.mem_cons, List.not_mem_nil, or_false] at h
  rcases h with rfl | rfl | rfl | rfl | rfl | rfl
  · rw [kids_of (fs := ["free", "free"]) (by decide), p_yes (by decide) (by decide), p_yes (by decide) (by decide), p_nil]
  · rw [kids_of (fs := ["free", "free"]) (by decide), p_yes (by decide) (by decide), p_yes (by decide) (by decide), p_nil]
  · rw [kids_of (fs := ["free", "free"]) (by decide), p_yes (by decide) (by decide), p_yes (by decide) (by decide), p_nil]
  · rw [kids_of (fs := ["free", "free"]) (by decide), p_yes (by decide) (by decide), p_yes (by decide) (by decide), p_nil]
  · rw [kids_of (fs := ["free", "free"]) (by decide), p_yes (by decide) (by decide), p_yes (by decide) (by decide), p_nil]
  · rw [kids_of (fs := ["free", "bound"]) (by decide), p_yes (by decide) (by decide), p_yes (by decide) (by decide), p_nil]
theorem kids_agg {o t : Str} {xs ys : List PyData} (h : (o, ys.length) ∈ aggs) : kids (.tuple (.str o :: .str t :: .tuple xs :: ys)) = xs ++ ys := by
  simp only [aggs, List.mem_cons, List.not_mem_nil, or_false, Prod.mk.injEq] at h
  rcases h with ⟨rfl, h⟩ | ⟨rfl, h⟩ | ⟨rfl, h⟩ | ⟨rfl, h⟩
  · match ys, h with
    | [_, _], _ => rw [kids_of (fs := ["name", "extra", "bound", "bound"]) (by decide), p_no (by decide) (by decide), p_ex, p_yes (by decide) (by decide), p_yes (by decide) (by decide), p_nil]
  · match ys, h with
    | [_, _, _], _ => rw [kids_of (fs := ["name", "extra", "bound", "bound", "bound"]) (by decide), p_no (by decide) (by decide), p_ex, p_yes (by decide) (by decide), p_yes (by decide) (by decide), p_yes (by decide) (by decide), p_nil]
  · match ys, h with
    | [_, _, _, _], _ => rw [kids_of (fs := ["name", "extra", "bound", "bound", "bound", "free"]) (by decide), p_no (by decide) (by decide), p_ex, p_yes (by decide) (by decide), p_yes (by decide) (by decide), p_yes (by decide) (by decide), p_yes (by decide) (by decide), p_nil]
  · match ys, h with
    | [_, _, _], _ => rw [kids_of (fs := ["name", "extra", "bound", "bound", "free"]) (by decide), p_no (by decide) (by decide), p_ex, p_yes (by decide) (by decide), p_yes (by decide) (by decide), p_yes (by decide) (by decide), p_nil]
theorem agg_len {o : Str} {n : Nat} (h : (o, n) ∈ aggs) : n ≤ 4 := by
  simp only [aggs, List.mem_cons, List.not_mem_nil, or_false, Prod.mk.injEq] at h
  omega
theorem Ex.kids {zs : List Str} {n : Nat} {x : PyData} (h : Ex zs (n + 1) x) : (∀ y, y ∈ kids x → Ex zs n y) ∧ (kids x).length ≤ 6 := by
  cases h with
  | leaf n x h =>
    rw [kids_leaf h]
    exact ⟨fun y hy => (nomatch hy), by decide⟩
  | cell n t v x h1 h2 h3 =>
    rw [kids_cell]
    refine ⟨fun y hy => ?_, (show 1 ≤ 6 by decide)⟩
    rw [List.mem_singleton.mp hy]
    exact h3
  | op n o x y h1 h2 h3 =>
    rw [kids_op h1]
    refine ⟨fun z hz => ?_, (show 2 ≤ 6 by decide)⟩
    simp only [List.mem_cons, List.not_mem_nil, or_false] at hz
    rcases hz with rfl | rfl
    · exact h2
    · exact h3
  | iff n x y z h1 h2 h3 =>
    rw [kids_if]
    refine ⟨fun u hu => ?_, (show 3 ≤ 6 by decide)⟩
    simp only [List.mem_cons, List.not_mem_nil, or_false] at hu
    rcases hu with rfl | rfl | rfl
    · exact h1
    · exact h2
    · exact h3
  | agg n o t xs ys h1 h2 h3 h4 h5 =>
    rw [kids_agg h1]
    have := agg_len h1
    refine ⟨fun u hu => ?_, by rw [List.length_append]; omega⟩
    rcases List.mem_append.mp hu with hu | hu
    · exact h4 u hu
    · exact h5 u hu
/-! ### levels -/
/-- the level below -/
def down (l : List PyData) : List PyData := l.flatMap kids
/-- n levels, from l on -/
def lvls : Nat → List PyData → List PyData
  | 0, _ => []
  | n + 1, l => l ++ lvls n (down l)
/-- all parts, each with its own behind it -/
def flatP : Nat → PyData → List PyData
  | 0, _ => []
  | n + 1, x => x :: (kids x).flatMap (flatP n)
def bnd : Nat → Nat
  | 0 => 0
  | n + 1 => 1 + 6 * bnd n
theorem sum_le {α : Type} (f : α → Nat) (b : Nat) : ∀ l : List α, (∀ x, x ∈ l → f x ≤ b) → (l.map f).sum ≤ l.length * b
  | [], _ => by simp
  | x :: l, h => by
    have h1 := h x List.mem_cons_self
    have h2 := sum_le f b l fun y hy => h y (List.mem_cons_of_mem _ hy)
    rw [List.map_cons, List.sum_cons, List.length_cons, Nat.succ_mul]
    omega
theorem flatP_len {zs : List Str} : ∀ {n : Nat} {x : PyData}, Ex zs n x → (flatP n x).length ≤ bnd n
  | 0, _, h => by cases h
  | n + 1, x, h => by
    obtain ⟨h1, h2⟩ := h.kids
    have h3 : ((kids x).flatMap (flatP n)).length ≤ 6 * bnd n := by
      rw [List.length_flatMap]
      have := sum_le (fun y => (flatP n y).length) (bnd n) (kids x) fun y hy => flatP_len (h1 y hy)
      have h4 : (kids x).length * bnd n ≤ 6 * bnd n := Nat.mul_le_mul_right _ h2
      omega
    simp only [flatP, List.length_cons, bnd]
    omega
theorem flatMap_cons_perm {α β : Type} (f : α → β) (g : α → List β) : ∀ l : List α, (l.map f ++ l.flatMap g).Perm (l.flatMap fun x => f x :: g x)
  | [] => .nil
  | x :: l => by
    have ih := flatMap_cons_perm f g l
    simp only [List.map_cons, List.flatMap_cons, List.cons_append]
    refine .cons _ ?_
    have : (l.map f ++ (g x ++ l.flatMap g)).Perm (g x ++ (l.map f ++ l.flatMap g)) := by
      rw [← List.append_assoc, ← List.append_assoc]
      exact List.perm_append_comm.append_right _
    exact this.trans (ih.append_left _)
/-- by levels, the same parts -/
theorem lvls_perm : ∀ (n : Nat) (l : List PyData), (lvls n l).Perm (l.flatMap (flatP n))
  | 0, l => by
    have : l.flatMap (flatP 0) = [] := by
      induction l with
      | nil => rfl
      | cons x l ih => rw [List.flatMap_cons, ih]; rfl
    rw [this]
    exact .nil
  | n + 1, l => by
    have ih := lvls_perm n (down l)
    have h1 : (down l).flatMap (flatP n) = l.flatMap fun x => (kids x).flatMap (flatP n) := by
      unfold down
      rw [List.flatMap_assoc]
    rw [h1] at ih
    have h2 := flatMap_cons_perm (fun x : PyData => x) (fun x => (kids x).flatMap (flatP n)) l
    rw [List.map_id'] at h2
    exact (ih.append_left l).trans h2
end L19

namespace L19
open PySem PySem.Spec PyProof.Rows L2 GR WX
/-- any walk over a list: what a turn does, told by body with what is to hold behind it -/
theorem walk_body {K : PySem.W.Frag} {a : Addr} {xs : List V} {body : V → Hp → (Hp → Prop) → Prop} {H0 : Hp} {Qd : Hp → Prop} (Pv : Nat → Hp → Prop) (h0 : Pv 0 H0) (hl : ∀ i H, i ≤ xs.length → Pv i H → SqL K H a xs)
    (hs : ∀ i x H, xs[i]? = some x → Pv i H → body x H (Pv (i + 1))) (hd : ∀ H, Pv xs.length H → Qd H) :
    ∃ W : Nat → Nat → Hp → Prop, (∃ m, W 0 m H0) ∧ ∀ i m H, W i m H →
      ((Itl K a).stop i H ∧ Qd H) ∨ ((Itl K a).go i H ∧ ∃ Nx : Hp → Prop, (∀ H', Nx H' → ∃ m', m' < m ∧ W (i + 1) m' H') ∧ ∀ x H', (Itl K a).yld i H x H' → body x H' Nx) := by
  have w := walk_list (K := K) (a := a) (xs := xs)
  refine ⟨fun i m H => m = xs.length - i ∧ i ≤ xs.length ∧ Pv i H, ⟨xs.length, rfl, Nat.zero_le _, h0⟩, ?_⟩
  rintro i m H ⟨rfl, hi, p⟩
  have q := hl i H hi p
  by_cases hlt : i < xs.length
  · refine .inr ⟨w.goes i H hlt q, Pv (i + 1), fun H' p' => ⟨xs.length - (i + 1), by omega, rfl, hlt, p'⟩, fun x H' y => ?_⟩
    obtain ⟨rfl, hx⟩ := w.yields i H x H' hlt q y
    exact hs i x _ hx p
  · obtain rfl : i = xs.length := by omega
    exact .inl ⟨w.stops H q, hd H p⟩
theorem Ex.kept {K : PySem.W.Frag} {H H' : Hp} {zs : List Str} {n : Nat} {x : PyData} {v : V} (s : KeepT H H') (h : Ex zs n x) (d : Dp K H v x) : Dp K H' v x := dp_keep s _ _ h.flat d
theorem flat_all {zs : List Str} {n : Nat} {xs : List PyData} (h : ∀ x, x ∈ xs → Ex zs n x) : flatDs xs = true := flatDs_of fun x hx => (h x hx).flat
theorem down_take {xs : List PyData} {i : Nat} {x : PyData} (h : xs[i]? = some x) : down (xs.take (i + 1)) = down (xs.take i) ++ kids x := by
  unfold down
  rw [List.take_add_one, h, List.flatMap_append]
  simp
theorem down_len {zs : List Str} {n : Nat} {xs : List PyData} (h : ∀ x, x ∈ xs → Ex zs (n + 1) x) : (down xs).length ≤ 6 * xs.length := by
  unfold down
  rw [List.length_flatMap]
  have := sum_le (fun y => (kids y).length) 6 xs fun y hy => ((h y hy).kids).2
  omega
theorem down_take_le (xs : List PyData) (i : Nat) : (down (xs.take i)).length ≤ (down xs).length := by
  have : down xs = down (xs.take i) ++ down (xs.drop i) := by
    unfold down
    rw [← List.flatMap_append, List.take_append_drop]
  rw [this, List.length_append]
  omega
theorem take_snoc {α : Type} {l : List α} {j : Nat} {x : α} (h : l[j]? = some x) : l.take (j + 1) = l.take j ++ [x] := by
  rw [List.take_add_one, h]
  rfl
theorem down_ex {zs : List Str} {n : Nat} {xs : List PyData} (h : ∀ x, x ∈ xs → Ex zs (n + 1) x) : ∀ y, y ∈ down xs → Ex zs n y := by
  intro y hy
  obtain ⟨x, hx, hy⟩ := List.mem_flatMap.mp hy
  exact ((h x hx).kids).1 y hy
section
variable {P : Program} {w : World} {K : PySem.W.Frag} {mg : Str → Option Value} {base : Heap}
abbrev s_contained : Stmt := topS 3
theorem sc_contained : FnScope ["expression"] ["expression"] (defScope s_contained) := ⟨rfl, rfl, rfl, by decide +kernel, rfl, by decide +kernel, by decide +kernel⟩
def sp_contained (K : PySem.W.Frag) : Sp := fun vs H Q _ => ∃ (v : V) (x : PyData) (zs : List Str) (n : Nat), vs = [v] ∧ Dp K H v x ∧ Ex zs (n + 1) x ∧ ∀ H' p us, Same H H' → H p = none → H' p = some (.lst us) → DpAll K H' us (kids x) → Q (.ref p) H'
theorem ok_contained {f fc : Addr} {fd fdc : FuncData} {k : Nat} (F : Fun K "contained" "contained" s_contained f fd) (Gc : FnOk P w K mg base CX0 k fc fdc ["expression", "wanted"] (sp_contained_of K)) (gc : mg "contained_of" = some (.ref fc)) (Kc : PySem.W.keepIn K (.ref fc) = true) (bc : Binds K fdc ["expression", "wanted"] []) {aP : Addr} (mALL : mg "ALL_PARTS" = some (.ref aP)) (TA : ∀ H, SqT K H aP (W2.map V.str)) :
    FnOk P w K mg base CX0 (k + 1) f fd ["expression"] (sp_contained K) := by
  have nd := sc_contained.nd
  refine F.ok sc_contained (fun vs H Q E h => ?_) (fun cdv A outer s H vs Q E hr h => ?_)
  · obtain ⟨v, x, zs, n, rfl, _⟩ := h
    rfl
  obtain ⟨v, x, zs, n, rfl, hd, he, q⟩ := h
  refine ⟨_, (pss_one (ps_ret (pe_call Gc hr (by rfl) gc Kc bc .nil pass0 (pa_cons (pv 0) (pa_cons (pe_glob rfl mALL (v := .ref aP) rfl) pa_nil))))), ?_⟩
  obtain ⟨wd, fs, rest, hf⟩ := he.form
  have hk := hf.kids
  have hkl := he.kids.2
  have hfl := he.flat
  obtain ⟨rfl, ht, hfit⟩ := hf
  cases hd with
  | tup hS hA =>
  rename_i a vs
  refine ⟨.ref a, rfl, a, aP, wd, fs, W2, rest, rfl, .tup hS hA, ht, hfit, ?_, ?_, TA H, fun H' p us s1 np hp hu => ?_⟩
  · rw [flatD, flatDs, Bool.and_eq_true] at hfl
    exact hfl.2
  · rw [← hk]
    omega
  · rw [← hk] at hu
    exact q H' p us s1 np hp hu
abbrev s_one_deeper : Stmt := topS 8
abbrev N_one : List Str := ["expressions", "expression", "part"]
theorem sc_one_deeper : FnScope N_one ["expressions"] (defScope s_one_deeper) := ⟨rfl, rfl, rfl, by decide +kernel, rfl, by decide +kernel, by decide +kernel⟩
def sp_one_deeper (K : PySem.W.Frag) : Sp := fun vs H Q _ => ∃ (a : Addr) (us : List V) (xs : List PyData) (zs : List Str) (n : Nat), vs = [.ref a] ∧ SqL K H a us ∧ DpAll K H us xs ∧ (∀ x, x ∈ xs → Ex zs (n + 1) x) ∧ xs.length ≤ 2100000 ∧
  ∀ H' p us', Same H H' → H p = none → H' p = some (.lst us') → DpAll K H' us' (down xs) → Q (.ref p) H'
theorem ok_one_deeper {f fc : Addr} {fd fdc : FuncData} {k : Nat} (F : Fun K "one_deeper" "one_deeper" s_one_deeper f fd) (Gc : FnOk P w K mg base CX0 k fc fdc ["expression"] (sp_contained K)) (gc : mg "contained" = some (.ref fc)) (Kc : PySem.W.keepIn K (.ref fc) = true) (bc : Binds K fdc ["expression"] []) :
    FnOk P w K mg base CX0 (k + 1) f fd ["expressions"] (sp_one_deeper K) := by
  have nd := sc_one_deeper.nd
  refine F.ok sc_one_deeper (fun vs H Q E h => ?_) (fun cdv A outer s H vs Q E hr h => ?_)
  · obtain ⟨a, us, xs, zs, n, rfl, _⟩ := h
    rfl
  obtain ⟨a, us, xs, zs, n, rfl, hS, hA, hE, hlen, q⟩ := h
  refine ⟨_, (pss_one (ps_ret (pe_lc2 (own := [("expression", 1), ("part", 2)]) (vs1 := [2]) (wi1 := iList K (tCall (sp_contained K) [] E0 (tCons (tVar 1) tNil))) rfl nd (pi_list (pv 0)) (blkOk_by (N := N_one) (sc := defScope s_one_deeper) (by decide +kernel)) (by decide)
      (fun _ _ _ _ _ => (pg_name (i := 1) nd rfl (Or.inl rfl))) (fun _ _ _ _ _ => pts_nil)
      (fun _ _ _ _ _ => pi_list (pe_call Gc hr (by rfl) gc Kc bc .nil pass0 (pa_cons (pv 1) pa_nil))) (fun _ _ _ _ _ => (pg_name (i := 2) nd rfl (Or.inl rfl))) (fun _ _ _ _ _ => pts_nil)
      (fun _ _ _ _ _ => (pv 2))))), ?_⟩
  refine ⟨.ref a, rfl, a, rfl, ⟨us, hS⟩, fun D nD => ?_⟩
  have hxl := dpAll_len hA
  have hdl := down_len hE
  have full : ∀ H' us', DpAll K H' us' (down xs) → us'.length < sizeLine := fun H' us' h => by
    rw [dpAll_len h, sizeLine_eq]
    omega
  refine walk_body (xs := us) (fun i H' => ∃ acc, H' D = some (.lst acc) ∧ DpAll K H' acc (down (xs.take i)) ∧ Same H H') ?_ ?_ ?_ ?_
  · refine ⟨[], upd_same, ?_, same_upd nD⟩
    rw [List.take_zero]
    exact .nil
  · rintro i H' _ ⟨acc, hD, hdp, kk⟩
    exact kk.seq hS
  · rintro i v H' hv ⟨acc, hD, hdp, kk⟩
    obtain ⟨x, hx, hvx⟩ := dpAll_at hA hv
    have ex := hE x (List.mem_of_getElem? hx)
    refine ⟨rfl, yes_then ⟨v, rfl, v, x, zs, n, rfl, ex.kept (KeepT.of kk) hvx, ex, fun H2 p us2 s2 np hp hu => ⟨p, rfl, ⟨us2, .inl (.inl hp)⟩, ?_⟩⟩⟩
    have hD2 := s2 _ _ hD
    have npD : D ≠ p := ne_of_none hD np
    have hul := dpAll_len hu
    have fd : flatDs (down (xs.take i)) = true := flat_all (n := n) (zs := zs) (down_ex fun y hy => hE y (List.mem_of_mem_take hy))
    have fk : flatDs (kids x) = true := flat_all ex.kids.1
    have hdn := down_take hx
    have hle := down_take_le xs (i + 1)
    rw [hdn, List.length_append] at hle
    refine walk_body (xs := us2) (fun j H3 => ∃ acc', H3 D = some (.lst acc') ∧ DpAll K H3 acc' (down (xs.take i) ++ (kids x).take j) ∧ (∀ b o, b ≠ D → H2 b = some o → H3 b = some o)) ?_ ?_ ?_ ?_
    · refine ⟨acc, hD2, ?_, fun b o _ e => e⟩
      rw [List.take_zero, List.append_nil]
      exact dp_keepAll (KeepT.of s2) _ _ fd hdp
    · rintro j H3 _ ⟨acc', hD3, hdp3, k3⟩
      exact .inl (.inl (k3 _ _ npD.symm hp))
    · rintro j y H3 hy ⟨acc', hD3, hdp3, k3⟩
      obtain ⟨dj, hdj, hyd⟩ := dpAll_at hu hy
      have kt3 : KeepT H2 H3 := ⟨fun b us e => k3 _ _ (ne_of e hD2 (fun z => by cases z)) e, fun b o us e => k3 _ _ (ne_of e hD2 (fun z => by cases z)) e⟩
      have fdj := flatDs_at fk hdj
      have k4 : KeepT H3 (upd H3 D (.lst (acc' ++ [y]))) := KeepT.lst hD3
      have la := dpAll_len hdp3
      rw [List.length_append, List.length_take] at la
      have hj : j < (kids x).length := (List.getElem?_eq_some_iff.mp hdj).1
      refine ⟨rfl, yes_then ⟨y, rfl, acc', hD3, ?_, acc' ++ [y], upd_same, ?_, fun b o hb e => ?_⟩⟩
      · rw [sizeLine_eq]
        omega
      · rw [take_snoc hdj, ← List.append_assoc]
        exact dpAll_append (dp_keepAll k4 _ _ (flatDs_append fd (flatDs_take j fk)) hdp3) (.cons (dp_keep (kt3.trans k4) _ _ fdj hyd) .nil)
      · rw [upd_ne hb]
        exact k3 b o hb e
    · rintro H3 ⟨acc', hD3, hdp3, k3⟩
      rw [hul, List.take_length, ← hdn] at hdp3
      exact ⟨acc', hD3, hdp3, fun b o e => k3 b o (ne_of_none e nD) (s2 _ _ (kk _ _ e))⟩
  · rintro H' ⟨acc, hD, hdp, kk⟩
    rw [hxl, List.take_length] at hdp
    exact q H' D acc kk nD hD hdp
end
end L19

namespace L19
open PySem PySem.Spec PyProof.Rows L2 GR WX
theorem lvls_nil : ∀ n, lvls n [] = []
  | 0 => rfl
  | n + 1 => by
    show [] ++ lvls n (down []) = []
    rw [List.nil_append, show down [] = [] from rfl, lvls_nil n]
theorem lvls_len {zs : List Str} {n : Nat} {x : PyData} (h : Ex zs n x) : (lvls n [x]).length ≤ (flatP n x).length := by
  have := (lvls_perm n [x]).length_eq
  rw [List.flatMap_cons, List.flatMap_nil, List.append_nil] at this
  exact Nat.le_of_eq this
/-- how many levels there are, from l on -/
def deepN : Nat → List PyData → Nat
  | 0, _ => 0
  | n + 1, l => if l.isEmpty then 0 else 1 + deepN n (down l)
theorem deepN_nil : ∀ n, deepN n [] = 0
  | 0 => rfl
  | n + 1 => rfl
section
variable {P : Program} {w : World} {K : PySem.W.Frag} {mg : Str → Option Value} {base : Heap}
abbrev s_all_parts : Stmt := topS 9
theorem sc_all_parts : FnScope ["expression", "found", "level"] ["expression"] (defScope s_all_parts) := ⟨rfl, rfl, rfl, by decide +kernel, rfl, by decide +kernel, by decide +kernel⟩
def sp_all_parts (K : PySem.W.Frag) : Sp := fun vs H Q _ => ∃ (v : V) (x : PyData) (zs : List Str) (n : Nat), vs = [v] ∧ Dp K H v x ∧ Ex zs n x ∧ (flatP n x).length ≤ 2100000 ∧ ∀ H' p us, Same H H' → H p = none → H' p = some (.lst us) → DpAll K H' us (lvls n [x]) → Q (.ref p) H'
theorem ok_all_parts {f fc : Addr} {fd fdc : FuncData} {k : Nat} (F : Fun K "all_parts" "all_parts" s_all_parts f fd) (Gc : FnOk P w K mg base CX0 k fc fdc ["expressions"] (sp_one_deeper K)) (gc : mg "one_deeper" = some (.ref fc)) (Kc : PySem.W.keepIn K (.ref fc) = true) (bc : Binds K fdc ["expressions"] []) :
    FnOk P w K mg base CX0 (k + 1) f fd ["expression"] (sp_all_parts K) := by
  have nd := sc_all_parts.nd
  refine F.ok sc_all_parts (fun vs H Q E h => ?_) (fun cdv A outer s H vs Q E hr h => ?_)
  · obtain ⟨v, x, zs, n, rfl, _⟩ := h
    rfl
  obtain ⟨v, x, zs, n, rfl, hd, he, hb, q⟩ := h
  have hll := lvls_len he
  refine ⟨_, (pss_cons (ps_set (i := 1) nd rfl (.inl rfl) (pe_lst pa_nil))
      (pss_cons (ps_set (i := 2) nd rfl (.inl rfl) (pe_lst (pa_cons (pv 0) pa_nil)))
      (pss_cons (ps_while PassesOwn.never (pt_truth (pv 2) (fun _ => rfl))
      (pss_cons (ps_expr (pe_bm PySem.F.plainAttrs_list PySem.F.slot_list_extend PySem.F.type_list_extend mt_extend (pv 1) (pa_cons (pv 2) pa_nil)))
        (pss_one (ps_set (i := 2) nd rfl (.inl rfl) (pe_call Gc hr (by rfl) gc Kc bc .nil pass0 (pa_cons (pv 2) pa_nil))))))
      (pss_one (ps_ret (pv 1)))))), ?_⟩
  refine ⟨Nat.zero_le _, fun fo nfo => ?_⟩
  have sf := same_upd (o := .lst []) nfo
  have hf0 : upd H fo (.lst []) fo = some (.lst []) := upd_same
  refine ⟨v, rfl, small_le (show 1 ≤ 1000 by decide), fun lv nlv => ?_⟩
  have sl := same_upd (o := .lst [v]) nlv
  have hfl := ne_of_none hf0 nlv
  refine ⟨fun m σ H' => ∃ (lv : Addr) (acc us : List V) (done xs : List PyData), σ = [some v, some (.ref fo), some (.ref lv)] ∧ H' fo = some (.lst acc) ∧ H' lv = some (.lst us) ∧ fo ≠ lv ∧ DpAll K H' acc done ∧ DpAll K H' us xs ∧ (∀ y, y ∈ xs → Ex zs m y) ∧ (∀ y, y ∈ done → flatD y = true) ∧ done ++ lvls m xs = lvls n [x] ∧ (∀ b o, b ≠ fo → H b = some o → H' b = some o), ⟨n, ?_⟩, ?_⟩
  · refine ⟨lv, [], [v], [], [x], rfl, sl _ _ hf0, upd_same, hfl, .nil, .cons (he.kept (KeepT.of (sf.trans sl)) hd) .nil, ?_, fun y hy => (nomatch hy), rfl, fun b o _ e => sl _ _ (sf _ _ e)⟩
    intro y hy
    rw [List.mem_singleton.mp hy]
    exact he
  · rintro m σ H' ⟨lv, acc, us, done, xs, rfl, hfo, hlv, hne, hA, hX, hE, hF, hL, kk⟩
    have lA := dpAll_len hA
    have lX := dpAll_len hX
    refine ⟨.ref lv, rfl, !us.isEmpty, .inl ⟨us, .inl (.inl hlv), rfl⟩, ?_⟩
    cases us with
    | nil =>
      have hx : xs = [] := by
        cases hX
        rfl
      subst hx
      refine iteF ⟨.ref fo, rfl, q H' fo acc (fun b o e => kk b o (ne_of_none e nfo) e) nfo hfo ?_⟩
      rw [lvls_nil, List.append_nil] at hL
      rw [← hL]
      exact hA
    | cons u0 ur =>
      have hx : xs ≠ [] := by
        intro z
        rw [z] at lX
        cases lX
      obtain ⟨x0, hx0⟩ := List.exists_mem_of_ne_nil xs hx
      obtain ⟨m', rfl⟩ : ∃ m', m = m' + 1 := by
        cases m with
        | zero => cases hE x0 hx0
        | succ m' => exact ⟨m', rfl⟩
      have hl2 : done.length + xs.length ≤ 2100000 := by
        have := congrArg List.length hL
        rw [List.length_append, lvls, List.length_append] at this
        omega
      have hu := upd_same (H := H') (a := fo) (o := .lst (acc ++ u0 :: ur))
      refine iteT ⟨fun σ' H'' => ∃ (lv : Addr) (acc us : List V) (done xs : List PyData), σ' = [some v, some (.ref fo), some (.ref lv)] ∧ H'' fo = some (.lst acc) ∧ H'' lv = some (.lst us) ∧ fo ≠ lv ∧ DpAll K H'' acc done ∧ DpAll K H'' us xs ∧ (∀ y, y ∈ xs → Ex zs m' y) ∧ (∀ y, y ∈ done → flatD y = true) ∧ done ++ lvls m' xs = lvls n [x] ∧ (∀ b o, b ≠ fo → H b = some o → H'' b = some o),
        fun σ' H'' z => ⟨m', Nat.lt_succ_self m', z⟩, ?_⟩
      refine ⟨.ref fo, rfl, .inl ⟨rfl, _, .inl (.inl hfo)⟩, .ref lv, rfl, fo, lv, acc, u0 :: ur, rfl, rfl, hfo, hlv, ?_, ?_⟩
      · rw [lA, lX, sizeLine_eq]
        omega
      have k1 : KeepT H' (upd H' fo (.lst (acc ++ u0 :: ur))) := KeepT.lst hfo
      have hlv1 : upd H' fo (.lst (acc ++ u0 :: ur)) lv = some (.lst (u0 :: ur)) := by
        rw [upd_ne hne.symm]
        exact hlv
      have fX := flat_all hE
      have hA1 := dpAll_append (dp_keepAll k1 _ _ (flatDs_of hF) hA) (dp_keepAll k1 _ _ fX hX)
      have hX1 := dp_keepAll k1 _ _ fX hX
      refine ⟨.ref lv, rfl, lv, u0 :: ur, xs, zs, m', rfl, .inl (.inl hlv1), hX1, hE, by omega, fun H2 p us' s2 np hp hu' => ?_⟩
      have hfo2 := s2 _ _ hu
      refine ⟨p, acc ++ u0 :: ur, us', done ++ xs, down xs, rfl, hfo2, hp, ne_of_none hu np, ?_, hu', down_ex hE, ?_, ?_, fun b o hb e => ?_⟩
      · refine dp_keepAll (KeepT.of s2) _ _ (flatDs_append (flatDs_of hF) fX) hA1
      · intro y hy
        rcases List.mem_append.mp hy with hy | hy
        · exact hF y hy
        · exact (hE y hy).flat
      · rw [List.append_assoc]
        exact hL
      · refine s2 _ _ ?_
        rw [upd_ne hb]
        exact kk b o hb e
end
end L19

/-! Sets of texts that can be walked: what one more element does to the object, for any kind of key. -/
namespace TX
open PySem PySem.Spec PyProof.Rows L2
section
variable {P : Program} {w : World} {A : Around} {E : Value → Shared → Prop} {s : Shared} {a : Addr}
/-- the object at a is the same set with these entries, and its table is as good as before -/
structure Grown (h0 h : Heap) (a : Addr) (o : Obj) (t : SetTable) (l : List (Int × Value)) : Prop where
  same : Heap.SameBut a h0 h
  at' : ∃ es ep t', h.get? a = some { o with data := .set es ep t' } ∧ es.toList.Perm l ∧ t'.fits es.size = true ∧ (Ris t.place.toList → Ris t'.place.toList) ∧ t'.led = t.led
theorem got {h : Heap} {o : Obj} {es es' : Array (Int × Value)} {ep : Nat} {t t' : SetTable} (ho : h.get? a = some o) (hd : o.data = .set es ep t) :
    (h.update a (Obj.putSet es' t')).get? a = some { o with data := .set es' (ep + 1) t' } := store_at ho hd
/-- laid down, and laid anew where the table is too full -/
theorem tail {g : Bool → Sem Unit} (hg : ∀ (b : Bool) (s₁ : Shared) (Q' : Unit → Shared → Prop), Q' () s₁ → wpAny (model P w) A (g b) Q' E s₁) {o : Obj} {es es1 : Array (Int × Value)} {ep : Nat} {t t0 t2 : SetTable} (ho : s.heap.get? a = some o) (hd : o.data = .set es ep t)
    {l : List (Int × Value)} (pm : es1.toList.Perm l) (small : es1.size < scanBound) (fit : t2.fits es1.size = true) (ris : Ris t0.place.toList → Ris t2.place.toList) (led : t2.led = t0.led) {d : Bool} {R : Option Bool → Shared → Prop}
    (done : ∀ h', Grown s.heap h' a o t0 l → R (some true) { s with heap := h' }) :
    wpAny (model P w) A (do
        storeSet a es1 t2
        if (!d && t2.tooFull) = true then do
            g (relayAll t2 es1 (SetTable.grown es1.size)).2.2
            storeSet a (relayAll t2 es1 (SetTable.grown es1.size)).1 (relayAll t2 es1 (SetTable.grown es1.size)).2.1
            pure (some true)
          else pure (some true)) R E s := by
  have h1 := got (es' := es1) (t' := t2) ho hd
  have b1 := Heap.SameBut.update s.heap a (Obj.putSet es1 t2)
  apply wpAny_bind
  refine wpAny_storeSet_of ho hd ?_ (fits_of_scanBound small)
  by_cases full : (!d && t2.tooFull) = true
  · rw [if_pos full]
    have p2 := relayAll_perm t2 es1 (SetTable.grown es1.size)
    have small2 : (relayAll t2 es1 (SetTable.grown es1.size)).1.size < scanBound := by
      have := p2.length_eq
      rw [Array.length_toList, Array.length_toList] at this
      omega
    apply wpAny_bind
    refine hg _ _ _ ?_
    apply wpAny_bind
    refine wpAny_storeSet_of h1 rfl ?_ (fits_of_scanBound small2)
    exact wpAny_pure (done _ ⟨b1.trans (Heap.SameBut.update _ a _), _, _, _, (got (o := { o with data := .set es1 (ep + 1) t2 }) h1 rfl : _), p2.trans pm, relayAll_fits t2 es1 _, fun _ => relayAll_ris t2 es1 _, (relayAll_led t2 es1 _).trans led⟩)
  · rw [if_neg full]
    exact wpAny_pure (done _ ⟨b1, es1, _, t2, h1, pm, fit, ris, led⟩)

/-- one more element, or none where it is in -/
theorem add {K : Type} [DecidableEq K] {knd : PySem.KeyKind P w K} {o : Obj} {es : Array (Int × Value)} {ep : Nat} {t : SetTable} {k : K} {v : Value} {Q : Bool → Shared → Prop} (ho : s.heap.get? a = some o) (hd : o.data = .set es ep t) (hel : ElemsOf knd es.toList)
    (small : es.size + 1 < scanBound) (hf : t.fits es.size = true) (hk : knd.is k v = true) (hsc : v.scannable = true) (old : (∃ e ∈ es.toList, knd.is k e.2 = true) → Q false s)
    (new : (∀ e ∈ es.toList, knd.is k e.2 = false) → ∀ h', Grown s.heap h' a o t ((knd.hash k, v) :: es.toList) → Q true { s with heap := h' }) : wpAny (model P w) A (setAddHashed a v (knd.hash k)) Q E s := by
  unfold setAddHashed setAddHashedIn
  apply wpAny_holding
  apply wpAny_bind
  refine wpAny_setState_of ho hd hf ?_
  dsimp only
  rw [byScan_of hsc (by omega) hel]
  simp only [↓reduceIte]
  unfold setAddByScan
  apply wpAny_bind
  apply wpAny_bind
  apply wpAny_rule
  apply wpAny_bind
  refine wpAny_setScan_of hk ho hd hf hel ?_
  cases hfi : List.findIdx? (fun e => knd.is k e.2) es.toList with
  | some j =>
    dsimp only
    obtain ⟨hj, pj, _⟩ := List.findIdx?_eq_some_iff_getElem.mp hfi
    exact wpAny_pure (wpAny_pure (old ⟨_, List.getElem_mem hj, pj⟩))
  | none =>
    dsimp only
    have out : ∀ e ∈ es.toList, knd.is k e.2 = false := fun e he => by
      have := List.findIdx?_eq_none_iff.mp hfi e he
      simpa using this
    have pm : (layNew t es (knd.hash k) v).1.toList.Perm ((knd.hash k, v) :: es.toList) := by
      have := layNew_perm t es (knd.hash k) v
      rw [Array.toList_push] at this
      exact this.trans (List.perm_append_singleton _ _)
    have small1 : (layNew t es (knd.hash k) v).1.size < scanBound := by
      have := pm.length_eq
      rw [Array.length_toList, List.length_cons, Array.length_toList] at this
      omega
    have fit := layNew_fits t es (knd.hash k) v
    have ris := layNew_ris t es (knd.hash k) v
    have led := layNew_led t es (knd.hash k) v
    have wg : ∀ (b : Bool) {s₁ : Shared} {Q' : Unit → Shared → Prop}, Q' () s₁ → wpAny (model P w) A (match b with | true => rule "set.scan.the-table-gave-way" | false => pure ()) Q' E s₁ := fun b s₁ Q' q => by
      cases b
      · exact wpAny_pure q
      · exact wpAny_rule q
    generalize layNew t es (knd.hash k) v = Z at pm small1 fit ris led ⊢
    obtain ⟨es1, t1, dummy, gave⟩ := Z
    dsimp only at pm small1 fit ris led ⊢
    apply wpAny_bind
    refine wg _ ?_
    have gave' : ∀ (b : Bool) (s₁ : Shared) (Q' : Unit → Shared → Prop), Q' () s₁ → wpAny (model P w) A (match b with | true => rule "set.scan.the-table-gave-way" | false => pure ()) Q' E s₁ := fun b s₁ Q' q => wg b q
    by_cases pl : t1.plain = true
    · rw [if_pos pl]
      apply wpAny_bind
      rw [hashByValue_scannable 8 hsc]
      apply wpAny_pure
      cases plainKind v with
      | true =>
        simp only [if_true]
        refine tail gave' ho hd pm small1 fit ris led ?_
        intro h' G
        exact wpAny_pure (new out h' G)
      | false =>
        simp only [Bool.false_eq_true, if_false]
        refine tail gave' ho hd pm small1 (SetTable.fits_plain_off fit) ris led ?_
        intro h' G
        exact wpAny_pure (new out h' G)
    · rw [if_neg pl]
      apply wpAny_bind
      apply wpAny_pure
      simp only [↓reduceIte]
      refine tail gave' ho hd pm small1 fit ris led ?_
      intro h' G
      exact wpAny_pure (new out h' G)
end
end TX

/-! Sets of texts: new, one more, sorted. -/
namespace TX
open PySem PySem.Spec PyProof.Rows L2
/-- these entries are the texts l -/
structure Els (w : World) (es : List (Int × Value)) (l : List Str) : Prop where
  each : ∀ e ∈ es, ∃ x u, e.2 = Value.str x u ∧ e.1 = hashStr w x
  perm : (es.map fun e => PyProof.Rows.strOf e.2).Perm l
/-- the set of the texts l at a; it can be walked -/
def SetS (w : World) (h : Heap) (a : Addr) (l : List Str) : Prop :=
  ∃ o es ep t, h.get? a = some o ∧ o.ExactSet ∧ o.data = .set es ep t ∧ Els w es.toList l ∧ l.Nodup ∧ es.size < scanBound ∧ t.fits es.size = true ∧ Ris t.place.toList ∧ (w.params.followText "set-order" = true ∨ t.led = true)
theorem SetS.keep {w : World} {h h' : Heap} {a : Addr} {l : List Str} (R : SetS w h a l) (k : ∀ o, h.get? a = some o → h'.get? a = some o) : SetS w h' a l := by
  obtain ⟨o, es, ep, t, ho, r⟩ := R
  exact ⟨o, es, ep, t, k o ho, r⟩
theorem isStr {P : Program} {w : World} (x : Str) (u : Tok) : (PySem.strKind P w).is x (.str x u) = true := by
  show Value.isStrOf x (.str x u) = true
  simp [Value.isStrOf]
theorem Els.kind {P : Program} {w : World} {es : List (Int × Value)} {l : List Str} (G : Els w es l) : ElemsOf (PySem.strKind P w) es := by
  intro e he
  obtain ⟨x, u, e2, e1⟩ := G.each e he
  exact ⟨⟨x, by rw [e2]; exact isStr x u, e1⟩, by rw [e2]; rfl⟩
theorem Els.mem {P : Program} {w : World} {es : List (Int × Value)} {l : List Str} (G : Els w es l) (x : Str) : (∃ e ∈ es, (PySem.strKind P w).is x e.2 = true) ↔ x ∈ l := by
  rw [← G.perm.mem_iff, List.mem_map]
  constructor
  · rintro ⟨e, he, q⟩
    obtain ⟨y, u, e2, _⟩ := G.each e he
    refine ⟨e, he, ?_⟩
    rw [e2] at q ⊢
    exact (PySem.strKind P w).inj (.str y u) y x (isStr y u) q
  · rintro ⟨e, he, q⟩
    obtain ⟨y, u, e2, _⟩ := G.each e he
    refine ⟨e, he, ?_⟩
    rw [e2] at q ⊢
    rw [← q]
    exact isStr y u
theorem Els.more {P : Program} {w : World} {es es' : List (Int × Value)} {l : List Str} {x : Str} {u : Tok} (G : Els w es l) (p : es'.Perm (((PySem.strKind P w).hash x, Value.str x u) :: es)) : Els w es' (x :: l) := by
  constructor
  · intro e he
    rcases List.mem_cons.mp (p.mem_iff.mp he) with rfl | he
    · exact ⟨x, u, rfl, rfl⟩
    · exact G.each e he
  · exact (p.map _).trans (G.perm.cons x)
/-- x put in -/
def put (x : Str) (l : List Str) : List Str := if x ∈ l then l else x :: l
theorem mem_put {x y : Str} {l : List Str} : y ∈ put x l ↔ y = x ∨ y ∈ l := by
  unfold put
  by_cases h : x ∈ l
  · rw [if_pos h]
    exact ⟨.inr, fun z => z.elim (fun e => e ▸ h) id⟩
  · rw [if_neg h, List.mem_cons]
theorem put_nodup {x : Str} {l : List Str} (h : l.Nodup) : (put x l).Nodup := by
  unfold put
  by_cases q : x ∈ l
  · rw [if_pos q]
    exact h
  · rw [if_neg q]
    exact List.nodup_cons.mpr ⟨q, h⟩
theorem put_length {x : Str} {l : List Str} : (put x l).length ≤ l.length + 1 := by
  unfold put
  by_cases q : x ∈ l
  · rw [if_pos q]
    omega
  · rw [if_neg q, List.length_cons]
    exact Nat.le_refl _
section
variable {P : Program} {w : World} {A : Around} {E : Value → Shared → Prop} {s : Shared} {a : Addr} {l : List Str}
theorem SetS.typeIs (R : SetS w s.heap a l) : s.TypeIs (.ref a) "set" := by
  obtain ⟨o, es, ep, t, ho, hx, _⟩ := R
  exact ⟨o, ho, hx.1⟩
theorem call_add {x : Str} {u : Tok} {Q : Value → Shared → Prop} (R : SetS w s.heap a l) (small : l.length + 1 < scanBound) (hQ : ∀ h', Heap.SameBut a s.heap h' → SetS w h' a (put x l) → Q .none { s with heap := h', toks := s.toks + 1 }) :
    wpAny (model P w) A (call (.builtin "set.add") [.ref a, .str x u]) Q E s := by
  refine wpAny_call_entry F.slot_set_add R.typeIs F.entry_set_add ?_ (F.args_set_add_2 _ _)
  obtain ⟨o, es, ep, t, ho, hx, hd, G, nd, hb, hf, hr, hl⟩ := R
  unfold Builtin.«set.add» Builtin.Frozenset.oneOther
  simp only [List.isEmpty_nil, bind_assoc]
  unfold Builtin.Frozenset.addrOf setAdd
  apply wpAny_bind
  apply wpAny_pure
  try dsimp only
  apply wpAny_bind
  apply wpAny_pure
  try dsimp only
  apply wpAny_bind
  apply wpAny_holding
  apply wpAny_bind
  refine (PySem.strKind P w).pyHash (isStr x u) ?_
  have sz : es.size = l.length := by
    have := G.perm.length_eq
    rw [List.length_map, Array.length_toList] at this
    exact this
  refine add (s := { s with toks := s.toks + 1 }) (knd := PySem.strKind P w) (k := x) (v := .str x u) ho hd G.kind (by omega) hf (isStr x u) rfl ?_ ?_
  · intro hin
    show wpAny _ _ (ret Value.none) _ _ _
    refine wpAny_pure ⟨_, rfl, hQ s.heap (Heap.SameBut.refl a s.heap) ?_⟩
    unfold put
    rw [if_pos ((G.mem x).1 hin)]
    exact ⟨o, es, ep, t, ho, hx, hd, G, nd, hb, hf, hr, hl⟩
  · intro out h' N
    show wpAny _ _ (ret Value.none) _ _ _
    refine wpAny_pure ⟨_, rfl, hQ h' N.same ?_⟩
    have hn : x ∉ l := fun z => by
      obtain ⟨e, he, q⟩ := (G.mem (P := P) x).2 z
      rw [out e he] at q
      cases q
    unfold put
    rw [if_neg hn]
    obtain ⟨es1, ep1, t1, h1, p1, f1, r1, l1⟩ := N.at'
    have sz1 : es1.size = es.size + 1 := by
      have := p1.length_eq
      rw [Array.length_toList, List.length_cons, Array.length_toList] at this
      exact this
    exact ⟨_, es1, ep1, t1, h1, hx, rfl, G.more (P := P) p1, List.nodup_cons.mpr ⟨hn, nd⟩, by omega, f1, r1 hr, hl.imp id fun z => l1.trans z⟩
theorem fresh {h : Heap} (w : World) : SetS w (h.push { cls := .type "set", dict := none, data := .set #[] 0 (.fresh 0 0 (!w.params.followText "set-order")) }) h.objs.size [] := by
  refine ⟨_, #[], 0, _, Heap.get?_push_size _ rfl, ⟨rfl, rfl, rfl⟩, rfl, ⟨fun e he => by simp at he, .nil⟩, .nil, by decide, by rfl, .nil, ?_⟩
  show _ ∨ (!w.params.followText "set-order") = true
  cases w.params.followText "set-order"
  · exact .inr rfl
  · exact .inl rfl
/-- sorted(it) -/
theorem call_sorted {Q : Value → Shared → Prop} (R : SetS w s.heap a l) (hh : A.handled = none) (h64 : l.length < 64)
    (hQ : ∀ s' p (out : Array Value) (c : Nat) (ys : List Str), (∀ b o, s.heap.get? b = some o → s'.heap.get? b = some o) → s'.gens = s.gens → s'.os = s.os → s.heap.objs.size ≤ p → s'.heap.get? p = some (seqObj "list" out c) → StrsAre out.toList ys → ys.Perm l → sortedS ys = true → Q (.ref p) s') :
    wpAny (model P w) A (call (.builtin "sorted") [.ref a]) Q E s := by
  obtain ⟨o, es, ep, t, ho, hx, hd, G, nd, hb, hf, hr, hl⟩ := R
  refine Calls.call_function_entry kind_sorted plain_sorted entry_sorted (args_sorted1 _) ?_
  unfold Builtin.«sorted»
  apply wpAny_bind (m := checkCount "sorted" 1 1 _)
  apply wpAny_pure
  apply wpAny_bind
  refine collect_set (A := A.in1) hh ⟨o, ho, hx.1, hd⟩ hf hb hr hl fun s1 vs k1 hz g1 o1 pm => ?_
  have hS : StrsAre vs (vs.map PyProof.Rows.strOf) := strsAre_map vs fun v hv => by
    obtain ⟨e, he, rfl⟩ := List.mem_map.mp (pm.mem_iff.mp hv)
    obtain ⟨x, u, e2, _⟩ := G.each e he
    exact ⟨x, u, e2⟩
  have pl : (vs.map PyProof.Rows.strOf).Perm l := by
    have q := pm.map PyProof.Rows.strOf
    rw [List.map_map] at q
    exact q.trans G.perm
  have hv : vs.length = l.length := by
    have := pl.length_eq
    rw [List.length_map] at this
    exact this
  apply wpAny_bind
  refine wpAny_newList ?_ (by rw [hv, sizeLine_eq]; omega)
  have hL : (s1.heap.push (seqObj "list" vs.toArray 0)).get? s1.heap.objs.size = some (seqObj "list" vs.toArray 0) := Heap.get?_push_size _ rfl
  apply wpAny_bind
  apply wpAny_holding
  refine wpAny_call_entry slot_list_sort ⟨_, hL, rfl⟩ entry_list_sort (list_sort_treeK strKind_oneLt hL hS.keysOf (fun v₁ v₂ rest e => keyKind_strs (by rw [← e]; exact hS)) (by rw [hv]; exact h64) fun st' hp hs => ⟨_, rfl, ?_⟩) (args_list_sort _)
  obtain ⟨ys, y1, y2, y3⟩ := sorted_out_str hS hp hs
  obtain ⟨c, hc⟩ := sortedHeap_at (vs := vs) (out := (arrOf st').map (·.2)) hL
  refine wpAny_pure ⟨_, rfl, hQ _ s1.heap.objs.size _ c ys (fun b u e => ?_) g1 o1 hz hc y1 (y2.trans pl) y3⟩
  have q := k1 b u e
  have lt := Heap.lt_size q
  show (sortedHeap (s1.heap.push (seqObj "list" vs.toArray 0)) s1.heap.objs.size vs _).get? b = some u
  rw [sortedHeap_old (Nat.ne_of_lt lt) (by rw [size_push']; exact Nat.lt_succ_of_lt lt)]
  exact Heap.get?_push_of_some _ q
end
end TX

/-! Sets of texts as things of the hand layer: a comprehension, sorted. -/
namespace TX
open PySem PySem.Spec PyProof.Rows L2
/-- the set of the texts l at a -/
def SetSO (w : World) (a : Addr) (l : List Str) : HO := .ext fun h => SetS w h a l
theorem so_new {w : World} {P : Program} {H : Hp} {h : Heap} {a : Addr} {l : List Str} (R : SetS w h a l) : ObjOk P w H h a (SetSO w a l) := by
  have ⟨o, _, _, _, ho, _⟩ := R
  exact ⟨R, ⟨o, ho⟩, fun h1 h2 p k => SetS.keep p k⟩
section
variable {X : Cx} {pins : List (Addr × Obj)} {σ : L2.St} {H : Hp} {s : Shared} {a : Addr} {l : List Str}
theorem so_get (I : Inv X pins σ H s) (ha : H a = some (SetSO X.w a l)) : SetS X.w s.heap a l := (I.hok a _ ha).1
theorem so_add {E : Value → Shared → Prop} {x : Str} {u : Tok} {Q : Value → Shared → Prop} (I : Inv X pins σ H s) (ha : H a = some (SetSO X.w a l)) (small : l.length + 1 < scanBound)
    (h : ∀ s', Inv X pins σ (upd H a (SetSO X.w a (put x l))) s' → Q .none s') : wpAny (model X.prog X.w) X.A (call (.builtin "set.add") [.ref a, .str x u]) Q E s := by
  refine call_add (so_get I ha) small fun h' sb new => ?_
  have there : ∃ o, h'.get? a = some o := by
    have ⟨o, _, _, _, ho, _⟩ := new
    exact ⟨o, ho⟩
  exact h _ (I.write (e := a) (t' := s.toks + 1) (by rw [ha]; trivial) (.inl rfl) (fun b o hb ho => (sb.2 b hb).trans ho) there (so_new new))
/-- sorted(a set of texts), fewer than 64 -/
def rSortedSS (w : World) : List V → Hp → VK → Prop := fun vs H Q => ∃ (a : Addr) (l : List Str), vs = [V.ref a] ∧ H a = some (SetSO w a l) ∧ l.length < 64 ∧ ∀ (ys : List Str) (p : Addr), ys.Perm l → sortedS ys = true → H p = none → Q (.ref p) (upd H p (.lst (ys.map V.str)))
theorem cr_sortedSS (hc : X.calm = true) : CallR X (.builtin "sorted") (rSortedSS X.w) := by
  intro pins s σ H vs us Q I r h
  obtain ⟨a, l, rfl, ha, h64, q⟩ := h
  rw [Vals.ref1 r]
  refine call_sorted (so_get I ha) (I.ok.hd hc) h64 fun s' p out c ys k g o hp hg hi hy hs => ?_
  have hlen : (ys.map V.str).length ≤ sizeLine := by
    rw [List.length_map, hy.length_eq, sizeLine_eq]
    omega
  have hn : H p = none := I.hok.fresh hp
  have J : Inv X pins σ (upd H p (.lst (ys.map V.str))) { s with heap := s'.heap, gens := s'.gens, drawn := s'.drawn, toks := s'.toks } :=
    I.call (ch := []) (Un.laid k hp hn) (I.hok.laid k hp ⟨hlen, out.toList, c, vals_of_strs hi, hg⟩) (by rw [g]; exact I.bare) (fun _ z => nomatch z)
  have e : s' = { s with heap := s'.heap, gens := s'.gens, drawn := s'.drawn, toks := s'.toks } := by
    cases s'
    cases s
    cases o
    rfl
  rw [e]
  exact ⟨.ref p, _, J, rfl, q ys p hy hs hn⟩
end
end TX

/-! {elt for target in iter if ..}, elt a text. -/
namespace TX
open PySem PySem.Spec PyProof.Rows L2 PpSet
/-- the element goes into the set at D -/
def Into (w : World) (D : Addr) (Nx : Hp → Prop) : VK := fun y H => ∃ (z : Str) (l : List Str), y = .str z ∧ H D = some (SetSO w D l) ∧ l.length + 1 < scanBound ∧ Nx (upd H D (SetSO w D (put z l)))
/-- one turn: target, tests, element -/
def Turn (w : World) (g : TG) (tt : TT) (te : TE) (vs : List Nat) (σ : L2.St) (D : Addr) (Nx : Hp → Prop) (x : V) (H : Hp) : Prop :=
  g x (wipe σ vs) H fun σ2 H2 => wipe σ2 vs = wipe σ vs ∧ tt σ2 H2 fun b H3 => if b = true then te σ2 H3 (Into w D Nx) else Nx H3
/-- the set comprehension's reading: W i m what holds before turn i, m falls -/
def tScS (w : World) (wi : TI) (g : TG) (tt : TT) (te : TE) (vs : List Nat) : TE := fun σ H Q => wi σ H fun J H1 => ∀ D, H1 D = none → ∃ W : Nat → Nat → Hp → Prop, (∃ m, W 0 m (upd H1 D (SetSO w D []))) ∧ ∀ i m H, W i m H →
  (J.stop i H ∧ Q (.ref D) H) ∨ (J.go i H ∧ ∃ Nx : Hp → Prop, (∀ H', Nx H' → ∃ m', m' < m ∧ W (i + 1) m' H') ∧ ∀ x H', J.yld i H x H' → Turn w g tt te vs σ D Nx x H')
section
variable {X : Cx}
theorem pe_scS {elt tg iter : Expr} {ifs : List Expr} {scope : Scope} {own : List (PySem.Str × Nat)} {pos : Pos} {wi : TI} {g : TG} {tt : TT} {te : TE} (hc : X.calm = true) (hN : X.N.Nodup) (hi : PI X tg iter wi) (ok : BlkOk X.N X.env.scope scope own)
    (hg : ∀ (s : Shared) (H : Hp) (C : Addr) (cl : List (PySem.Str × Addr)) (fp : List Addr), PG (X.blk s H scope (compEnvC scope cl C X.env) fp) tg g) (ht : ∀ (s : Shared) (H : Hp) (C : Addr) (cl : List (PySem.Str × Addr)) (fp : List Addr), PTs (X.blk s H scope (compEnvC scope cl C X.env) fp) ifs tt)
    (he : ∀ (s : Shared) (H : Hp) (C : Addr) (cl : List (PySem.Str × Addr)) (fp : List Addr), PE (X.blk s H scope (compEnvC scope cl C X.env) fp) elt te) (hs : ∀ x, foldedSetIterable iter X.env x = pure x := by intro _; rfl) :
    PE X (.SetComp elt [⟨tg, iter, ifs, 0⟩] scope pos) (tScS X.w wi g tt te (own.map (·.2))) := by
  refine ⟨fun pins s σ H Q I h => ?_⟩
  rw [eval_SetComp]
  have free : ∀ y ∈ scope.names, y.2 = .free → ∃ c, X.env.cells.lookup y.1 = some c := fun y hy e => (ok.free y hy e).elim (fun k => I.ok.has _ (.inl k)) (fun k => I.ok.has _ (.inr k))
  refine wpAny_comprehension_free rfl hs (closure_ok free) ok.kind (fun y hy e => by rw [ok.uniq y hy, e]) (thn (hi.run pins s σ H _ I h) fun xv s1 hx => thn hx fun itv s2 h2 => ?_)
  obtain ⟨it, fp, tn, J, H2, e, I2, T, st2, f2, q⟩ := h2
  subst e
  refine newSet_ok (newEnv_comp ?_)
  -- the new set is tracked
  obtain ⟨D, hD⟩ : ∃ D, s2.heap.objs.size = D := ⟨_, rfl⟩
  rw [hD]
  obtain ⟨W, ⟨m0, w0⟩, turn⟩ := q D (I2.hok.fresh (Nat.le_of_eq hD))
  obtain ⟨s3, hs3⟩ : ∃ s3 : Shared, ({ s2 with heap := s2.heap.push { cls := .type "set", dict := none, data := .set #[] 0 (.fresh 0 0 (!X.w.params.followText "set-order")) } } : Shared) = s3 := ⟨_, rfl⟩
  have h3 : s3.heap = s2.heap.push { cls := .type "set", dict := none, data := .set #[] 0 (.fresh 0 0 (!X.w.params.followText "set-order")) } := by rw [← hs3]
  obtain ⟨H3, hH3⟩ : ∃ H3, upd H2 D (SetSO X.w D []) = H3 := ⟨_, rfl⟩
  have I3 : Inv X pins σ H3 s3 := by
    rw [← hs3, ← hH3]
    refine I2.laid (t' := s2.toks) (fun b o e => Heap.get?_push_of_some _ e) (Nat.le_of_eq hD) ?_
    rw [← hD]
    exact so_new (fresh X.w)
  rw [hs3]
  rw [hH3] at w0
  -- what the iterator stands upon is not tracked
  have foot : ∀ b ∈ fp, FpOk X pins H3 b ∧ b < s3.heap.objs.size := fun b hb => by
    obtain ⟨o, e, _⟩ := T.obj _ _ st2 b hb
    have lt := Heap.lt_size e
    refine ⟨⟨?_, (f2 b hb).2⟩, ?_⟩
    · rw [← hH3, upd_ne (by rw [← hD]; exact Nat.ne_of_lt lt)]
      exact (f2 b hb).1
    · rw [h3, Heap.size_push]
      exact Nat.lt_succ_of_lt lt
  have st3 : tn 0 s3.heap := T.keep _ _ _ st2 fun b _ o e => by
    rw [h3]
    exact Heap.get?_push_of_some _ e
  have I4 := block_start I3 ok hN foot
  have pg := hg s3 H3 s3.heap.objs.size (cellsFrom (s3.heap.objs.size + 1) scope.names (cloFrom X.env.cells scope.names [])) fp
  have pt := ht s3 H3 s3.heap.objs.size (cellsFrom (s3.heap.objs.size + 1) scope.names (cloFrom X.env.cells scope.names [])) fp
  have pe := he s3 H3 s3.heap.objs.size (cellsFrom (s3.heap.objs.size + 1) scope.names (cloFrom X.env.cells scope.names [])) fp
  show codeAny _ _ (.compStart (.SetComp elt [⟨tg, iter, ifs, 0⟩] scope pos) 0 (.ref it) (.ref D) (compEnvC scope (cellsFrom (s3.heap.objs.size + 1) scope.names (cloFrom X.env.cells scope.names [])) s3.heap.objs.size X.env)) _ { s3 with heap := pushCells (s3.heap.push { cls := .type "dict", data := .dict #[] }) scope.names }
  have bare : ∀ b ∈ fp, H3 b = none := fun b hb => (foot b hb).1.1
  generalize hce : compEnvC scope (cellsFrom (s3.heap.objs.size + 1) scope.names (cloFrom X.env.cells scope.names [])) s3.heap.objs.size X.env = ce at I4 pg pt pe ⊢
  have cL : ce.locals = s3.heap.objs.size := by
    subst hce
    rfl
  generalize hs4 : ({ s3 with heap := pushCells (s3.heap.push { cls := .type "dict", data := .dict #[] }) scope.names } : Shared) = s4 at I4 ⊢
  have st4 : tn 0 s4.heap := T.keep _ _ _ st3 fun b _ o e => by
    rw [← hs4]
    exact pushCells_keeps _ _ _ _ (Heap.get?_push_of_some _ e)
  -- in the block as well
  have stat : ∀ {σ' : L2.St} {H' : Hp} {s' : Shared}, Inv (X.blk s3 H3 scope ce fp) [] σ' H' s' → (∀ b ∈ fp, H' b = none) → ∀ b ∈ fp, FpOk (X.blk s3 H3 scope ce fp) [] H' b := fun {σ' H' s'} I' hn b hb =>
    ⟨hn b hb, (I'.ok.exf b hb).1, I'.ok.exfs b hb, .inl hb, fun x c e => (I'.ok.exf b hb).2 x c e, fun p hp => absurd (show p ∈ ([] : List (Addr × Obj)) ++ [] from hp) (by simp)⟩
  refine (fun (loop : codeAny (model X.prog X.w) X.A (.compLoop (.SetComp elt [⟨tg, iter, ifs, 0⟩] scope pos) 0 (.ref it) (.ref D) ce) _ s4) => codeAny_compStart_set loop (T.self X.A 0 _ _ _ st4 loop)) ?_
  refine compLoopS_any (fun n s' => ∃ i H', Inv (X.blk s3 H3 scope ce fp) [] (wipe σ (own.map (·.2))) H' s' ∧ tn i s'.heap ∧ (∀ b ∈ fp, H' b = none) ∧ W i n H') ?_ m0 ⟨0, H3, I4, st4, bare, w0⟩
  rintro n s5 ⟨i, H5, I5, st5, n5, w5⟩
  rcases turn i n H5 w5 with ⟨stop, fin⟩ | ⟨go, Nx, hNx, step⟩
  · refine thnF (T.done (X.blk s3 H3 scope ce fp) rfl rfl rfl hc i [] s5 _ H5 (fun _ _ => False) I5 (stat I5 n5) st5 stop) fun r s6 ⟨hr, I6⟩ => ?_
    subst hr
    have I7 : Inv X pins σ H5 s6 := I3.call' (ch := fp) I6.os I6.base I6.hok I6.bare fun b hb => ⟨(foot b hb).1.2.2.2.1, (foot b hb).1.2.1, (foot b hb).1.2.2.2.2.1, (foot b hb).1.2.2.2.2.2⟩
    have gone : H5 s3.heap.objs.size = none := by
      have z : H5 ce.locals = none := I6.free
      rw [cL] at z
      exact z
    obtain ⟨m, hn, _⟩ := I6.loc
    have hn : s6.heap.Ns ce.locals m := hn
    rw [cL] at hn
    refine ⟨m, hn, fun h'' sb => ?_⟩
    obtain ⟨f0, f1, f2', f3, f4, f5⟩ := I3.fpOk (Nat.le_refl _) gone
    exact ⟨.ref D, H5, I7.turned (t' := s6.toks) (fun b o hb e => (sb.2 b hb).trans e) f0 f1 f3 f4 f5, rfl, fin⟩
  · refine thnF (T.item (X.blk s3 H3 scope ce fp) rfl rfl rfl hc i [] s5 _ H5 (fun _ _ => False) I5 (stat I5 n5) st5 go) fun r s6 ⟨u, hr, h6⟩ => ?_
    subst hr
    refine thnF h6 fun _ s7 ⟨x, H7, I7, r7, y7, st7, n7⟩ => ?_
    have I7' := I7.pinned (stat I7 n7) (T.obj _ _ st7)
    refine thnF (pg.run _ s7 _ H7 x u _ I7' r7 (step x H7 y7)) fun _ s8 ⟨σ8, H8, I8, hw8, q8⟩ => ?_
    refine thnF (pt.run _ s8 σ8 H8 _ I8 q8) fun b s9 ⟨H9, I9, q9⟩ => ?_
    have next : ∀ {s' : Shared} {H' : Hp}, Inv (X.blk s3 H3 scope ce fp) ([] ++ pinsAt fp s7.heap) σ8 H' s' → Nx H' → ∃ m, m < n ∧ ∃ i H', Inv (X.blk s3 H3 scope ce fp) [] (wipe σ (own.map (·.2))) H' s' ∧ tn i s'.heap ∧ (∀ b ∈ fp, H' b = none) ∧ W i m H' := fun {s' H'} I' nx => by
      obtain ⟨m', hm, w'⟩ := hNx H' nx
      have pinned : ∀ b ∈ fp, ∀ o, s7.heap.get? b = some o → s'.heap.get? b = some o ∧ H' b = none := fun b hb o e => by
        have z := I'.pin (b, o) (List.mem_append_right _ (List.mem_append_right _ (mem_pinsAt hb e)))
        exact ⟨z.1, z.2.1⟩
      have len : (wipe σ (own.map (·.2))).length = σ8.length := by rw [← hw8, wipe_length]
      refine ⟨m', hm, i + 1, H', (I'.unpinned (pins := [])).weak len (fun j v e => ?_), T.keep _ _ _ st7 fun b hb o e => (pinned b hb o e).1, fun b hb => ?_, w'⟩
      · rw [← hw8] at e
        exact (wipe_some e).1
      · obtain ⟨o, e, _⟩ := T.obj _ _ st7 b hb
        exact (pinned b hb o e).2
    cases b with
    | false =>
      simp only [Bool.false_eq_true, if_false] at q9 ⊢
      exact next I9 q9
    | true =>
      simp only [if_true] at q9 ⊢
      refine thnF (pe.run _ s9 σ8 H9 _ I9 q9) fun z s10 ⟨yv, H10, I10, r10, zt, l0, ey, hD10, hz10, nx⟩ => ?_
      subst ey
      obtain ⟨tk, rfl⟩ : ∃ tk, z = Value.str zt tk := r10
      exact so_add (X := X.blk s3 H3 scope ce fp) I10 hD10 hz10 fun s11 I11 => next I11 nx
end
end TX

namespace L19
open PySem PySem.Spec PyProof.Rows L2 GR WX TX
def varName : PyData → Option Str
  | .tuple [.str w, .str z] => if w = "var" then some z else none
  | _ => none
/-- the variables among these parts -/
def vars (l : List PyData) : List Str := l.filterMap varName
theorem Ex.var {zs : List Str} {n : Nat} {rest : List PyData} (h : Ex zs n (.tuple (.str "var" :: rest))) : ∃ z, z ∈ zs ∧ rest = [.str z] := by
  generalize hx : PyData.tuple (.str "var" :: rest) = x at h
  cases h with
  | leaf n x h =>
    cases h with
    | int i _ _ => cases hx
    | let_ i _ _ => cases hx
    | key => cases hx
    | var z hz =>
      cases hx
      exact ⟨z, hz, rfl⟩
  | cell n t v x h1 h2 h3 => cases hx
  | op n o x y h1 h2 h3 =>
    cases hx
    exact absurd h1 (by decide)
  | iff n x y z h1 h2 h3 => cases hx
  | agg n o t xs ys h1 h2 h3 h4 h5 =>
    cases hx
    simp only [aggs, List.mem_cons, List.not_mem_nil, or_false, Prod.mk.injEq] at h1
    rcases h1 with ⟨h, _⟩ | ⟨h, _⟩ | ⟨h, _⟩ | ⟨h, _⟩ <;> exact absurd h (by decide)
theorem varName_no {w : Str} {rest : List PyData} (h : w ≠ "var") : varName (.tuple (.str w :: rest)) = none := by
  unfold varName
  split
  · rename_i w' z e
    cases e
    rw [if_neg h]
  · rfl
theorem vars_take {l : List PyData} {i : Nat} {x : PyData} (h : l[i]? = some x) : vars (l.take (i + 1)) = vars (l.take i) ++ (varName x).toList := by
  unfold vars
  rw [take_snoc h, List.filterMap_append]
  cases e : varName x with
  | none => simp [e]
  | some z => simp [e]
theorem lvls_ex {zs : List Str} : ∀ {n : Nat} {l : List PyData}, (∀ x, x ∈ l → Ex zs n x) → ∀ y, y ∈ lvls n l → Ex zs n y
  | 0, l, h, y, hy => by
    simp only [lvls, List.not_mem_nil] at hy
  | n + 1, l, h, y, hy => by
    rw [lvls] at hy
    rcases List.mem_append.mp hy with hy | hy
    · exact h y hy
    · exact (lvls_ex (down_ex h) y hy).mono (Nat.le_succ n)
theorem vars_in {zs : List Str} {n : Nat} {l : List PyData} (h : ∀ x, x ∈ l → Ex zs n x) : ∀ z, z ∈ vars l → z ∈ zs := by
  intro z hz
  obtain ⟨x, hx, e⟩ := List.mem_filterMap.mp hz
  obtain ⟨w, fs, rest, rfl, _, _⟩ := (h x hx).form
  by_cases hw : w = "var"
  · subst hw
    obtain ⟨z', hz', rfl⟩ := (h _ hx).var
    unfold varName at e
    simp only [if_pos] at e
    exact Option.some.inj e ▸ hz'
  · rw [varName_no hw] at e
    cases e
theorem nodup_le : ∀ {l m : List Str}, l.Nodup → (∀ z, z ∈ l → z ∈ m) → l.length ≤ m.length
  | [], _, _, _ => Nat.zero_le _
  | a :: l, m, h, s => by
    obtain ⟨h1, h2⟩ := List.nodup_cons.mp h
    have ha := s a List.mem_cons_self
    have := nodup_le (m := m.erase a) h2 fun z hz => by
      have hne : z ≠ a := fun e => h1 (e ▸ hz)
      exact (List.mem_erase_of_ne hne).mpr (s z (List.mem_cons_of_mem _ hz))
    rw [List.length_erase_of_mem ha] at this
    have pos : 0 < m.length := List.length_pos_of_mem ha
    rw [List.length_cons]
    omega
section
variable {P : Program} {w : World} {K : PySem.W.Frag} {mg : Str → Option Value} {base : Heap}
abbrev s_variables_of : Stmt := topS 13
abbrev N_vars : List Str := ["expression", "part"]
theorem sc_variables_of : FnScope N_vars ["expression"] (defScope s_variables_of) := ⟨rfl, rfl, rfl, by decide +kernel, rfl, by decide +kernel, by decide +kernel⟩
def sp_variables_of (K : PySem.W.Frag) : Sp := fun vs H Q _ => ∃ (v : V) (x : PyData) (zs : List Str) (n : Nat), vs = [v] ∧ Dp K H v x ∧ Ex zs n x ∧ (flatP n x).length ≤ 2100000 ∧ zs.length ≤ 60 ∧
  ∀ H' p ys, Same H H' → H p = none → H' p = some (.tup (ys.map V.str)) → ys.Nodup → sortedS ys = true → (∀ z, z ∈ ys ↔ z ∈ vars (lvls n [x])) → Q (.ref p) H'
theorem ok_variables_of {f fc : Addr} {fd fdc : FuncData} {k : Nat} (F : Fun K "variables_of" "variables_of" s_variables_of f fd) (Gc : FnOk P w K mg base CX0 k fc fdc ["expression"] (sp_all_parts K)) (gc : mg "all_parts" = some (.ref fc)) (Kc : PySem.W.keepIn K (.ref fc) = true) (bc : Binds K fdc ["expression"] [])
    (msorted : mg "sorted" = none) (mtuple : mg "tuple" = none) : FnOk P w K mg base CX0 (k + 1) f fd ["expression"] (sp_variables_of K) := by
  have nd := sc_variables_of.nd
  refine F.ok sc_variables_of (fun vs H Q E h => ?_) (fun cdv A outer s H vs Q E hr h => ?_)
  · obtain ⟨v, x, zs, n, rfl, _⟩ := h
    rfl
  obtain ⟨v, x, zs, n, rfl, hd, he, hb, hz, q⟩ := h
  refine ⟨_, (pss_one (ps_ret (pe_callTy call_tuple_of (by rfl) mtuple boot_tuple (pa_cons (pe_callB (cr_sortedSS rfl) (by rfl) msorted boot_sorted (pa_cons (pe_scS (own := [("part", 1)]) rfl nd (pi_list (pe_call Gc hr (by rfl) gc Kc bc .nil pass0 (pa_cons (pv 0) pa_nil))) (blkOk_by (N := N_vars) (sc := defScope s_variables_of) (by decide +kernel))
      (fun _ _ _ _ _ => (pg_name (i := 1) nd rfl (Or.inl rfl)))
      (tt := tTest (tOp rEq (tOp (rIxT K) (tVar 1) (tC (.int 0))) (tC (.str "var")))) (fun _ _ _ _ _ => pts_one (pt_cmpR op_eq (pe_ix ix_tup (pv 1) pe_int (fun _ _ => rfl)) pe_str (nomark _)))
      (te := tOp (rIxT K) (tVar 1) (tC (.int 1))) (fun _ _ _ _ _ => (pe_ix ix_tup (pv 1) pe_int (fun _ _ => rfl)))) pa_nil)) pa_nil)))), ?_⟩
  refine ⟨v, rfl, v, x, zs, n, rfl, hd, he, hb, fun H1 p us s1 np hp hu => ⟨p, rfl, ⟨us, .inl (.inl hp)⟩, fun D nD => ?_⟩⟩
  have hx1 : ∀ y, y ∈ [x] → Ex zs n y := fun y hy => by
    rw [List.mem_singleton.mp hy]
    exact he
  have hE := lvls_ex hx1
  have lu := dpAll_len hu
  have npD := ne_of_none hp nD
  have hvz := vars_in hE
  refine walk_body (xs := us) (fun i H' => ∃ l, H' D = some (SetSO w D l) ∧ l.Nodup ∧ (∀ z, z ∈ l ↔ z ∈ vars ((lvls n [x]).take i)) ∧ Same H1 H') ?_ ?_ ?_ ?_
  · refine ⟨[], upd_same, .nil, fun z => ?_, same_upd nD⟩
    rw [List.take_zero]
    exact Iff.rfl
  · rintro i H' _ ⟨l, hl, hn, hm, kk⟩
    exact .inl (.inl (kk _ _ hp))
  · rintro i y H' hy ⟨l, hl, hn, hm, kk⟩
    obtain ⟨d, hdi, hyd⟩ := dpAll_at hu hy
    have ex := hE d (List.mem_of_getElem? hdi)
    have hyd2 := ex.kept (KeepT.of kk) hyd
    have vt := vars_take hdi
    obtain ⟨wd, fs, rest, rfl, _, _⟩ := ex.form
    cases hyd2 with
    | tup hS hA =>
    cases hA with
    | cons hw hA =>
    cases hw
    rename_i a vs
    refine ⟨rfl, .ref a, rfl, a, _, 0, .str wd, rfl, rfl, hS, at0, rfl, _, rfl, ite2 (fun e1 => ?_) (fun e1 => ?_)⟩
    · have e1 : wd = "var" := by simpa using e1
      subst e1
      obtain ⟨z, hzz, rfl⟩ := ex.var
      cases hA with
      | cons hw hA =>
      cases hw
      refine ⟨.ref a, rfl, a, _, 1, .str z, rfl, rfl, hS, at1, z, l, rfl, hl, ?_, put z l, upd_same, put_nodup hn, fun z' => ?_, fun b o e => ?_⟩
      · have := nodup_le (m := zs) hn fun z' hz' => hvz z' (by
          have h1 := (hm z').mp hz'
          obtain ⟨y, hy, e⟩ := List.mem_filterMap.mp h1
          exact List.mem_filterMap.mpr ⟨y, List.mem_of_mem_take hy, e⟩)
        show _ < 4096
        omega
      · rw [mem_put, vt, List.mem_append, hm z']
        have : (varName (.tuple [.str "var", .str z])).toList = [z] := by
          unfold varName
          simp
        rw [this, List.mem_singleton]
        exact Or.comm
      · rw [upd_ne (ne_of_none e nD)]
        exact kk _ _ e
    · have e1 : wd ≠ "var" := fun z => e1 (by simpa using z)
      refine ⟨l, hl, hn, fun z => ?_, kk⟩
      rw [vt, varName_no e1, hm z]
      simp
  · rintro H' ⟨l, hl, hn, hm, kk⟩
    rw [lu, List.take_length] at hm
    have h6 := nodup_le (m := zs) hn fun z' hz' => hvz z' ((hm z').mp hz')
    refine ⟨D, l, rfl, hl, by omega, fun ys r hperm hsrt nr => ?_⟩
    have sr := same_upd (o := .lst (ys.map V.str)) nr
    refine ⟨r, ys.map V.str, rfl, .inl ⟨.inl (.inl upd_same), fun t nt => ?_⟩⟩
    have st := same_upd (o := .tup (ys.map V.str)) nt
    refine q _ t ys (s1.trans (kk.trans (sr.trans st))) ((s1.trans (kk.trans sr)).free nt) upd_same (hperm.nodup_iff.mpr hn) hsrt fun z => ?_
    rw [hperm.mem_iff]
    exact hm z
end
end L19

namespace L19
open PySem PySem.Spec PyProof.Rows L2 GR WX TX
def sp_test (K : PySem.W.Frag) (f : Nat → PyData → Bool) : Sp := fun vs H Q _ => ∃ (v : V) (x : PyData) (zs : List Str) (n : Nat), vs = [v] ∧ Dp K H v x ∧ Ex zs n x ∧ (flatP n x).length ≤ 2100000 ∧ n ≤ 30 ∧ zs.length ≤ 60 ∧ (∀ z, z ∈ zs → PyData.strOk z = true) ∧ ∀ H', Same H H' → Q (.bl (f n x)) H'
/-- the word at the head -/
def headW : PyData → Str
  | .tuple (.str w :: _) => w
  | _ => Str.empty
abbrev W1 : List Str := ["free"]
/-- what is contained and free -/
def kidsF : PyData → List PyData
  | .tuple (.str w :: rest) => pick W1 (fieldsOf w) rest
  | _ => []
theorem kidsF_of {w : Str} {fs : List Str} {rest : List PyData} (ht : (w, fs) ∈ table) : kidsF (.tuple (.str w :: rest)) = pick W1 fs rest := by
  show pick W1 (fieldsOf w) rest = _
  rw [show fieldsOf w = fs from fieldsOf_table (w, fs) ht]
theorem pick_sub : ∀ (fs : List Str) (ds : List PyData), (pick W1 fs ds).Sublist (pick W2 fs ds)
  | f :: fs, d :: ds => by
    simp only [pick]
    refine List.Sublist.append ?_ (pick_sub fs ds)
    by_cases h1 : f = "extra"
    · rw [if_pos h1, if_pos h1]
      exact List.Sublist.refl _
    · rw [if_neg h1, if_neg h1]
      by_cases h2 : f ∈ W1
      · have h3 : f ∈ W2 := by
          rw [List.mem_singleton.mp h2]
          decide
        rw [if_pos h2, if_pos h3]
        exact List.Sublist.refl _
      · rw [if_neg h2]
        exact List.nil_sublist _
  | [], _ => by simp only [pick]; exact List.Sublist.refl _
  | _ :: _, [] => by simp only [pick]; exact List.Sublist.refl _
theorem kidsF_sub (x : PyData) : (kidsF x).Sublist (kids x) := by
  unfold kidsF kids
  split
  · exact pick_sub _ _
  · exact List.nil_sublist _
def freeKey : Nat → PyData → Bool
  | 0, _ => false
  | n + 1, x => decide (headW x = "key") || (kidsF x).any (freeKey n)
theorem any_congr {α : Type} {f g : α → Bool} : ∀ {l : List α}, (∀ x, x ∈ l → f x = g x) → l.any f = l.any g
  | [], _ => rfl
  | x :: l, h => by
    rw [List.any_cons, List.any_cons, h x List.mem_cons_self, any_congr fun y hy => h y (List.mem_cons_of_mem _ hy)]
theorem Ex.kidsF {zs : List Str} {n : Nat} {x : PyData} (h : Ex zs (n + 1) x) : ∀ y, y ∈ kidsF x → Ex zs n y := fun y hy => h.kids.1 y ((kidsF_sub x).subset hy)
theorem free_stable {zs : List Str} : ∀ {m k : Nat} {x : PyData}, Ex zs m x → m ≤ k → freeKey k x = freeKey m x
  | 0, _, _, h, _ => by cases h
  | m + 1, 0, _, _, hk => by omega
  | m + 1, k + 1, x, h, hk => by
    simp only [freeKey]
    rw [any_congr fun y hy => free_stable (h.kidsF y hy) (by omega : m ≤ k)]
theorem flatMap_congr {α β : Type} {f g : α → List β} : ∀ {l : List α}, (∀ x, x ∈ l → f x = g x) → l.flatMap f = l.flatMap g
  | [], _ => rfl
  | x :: l, h => by
    rw [List.flatMap_cons, List.flatMap_cons, h x List.mem_cons_self, flatMap_congr fun y hy => h y (List.mem_cons_of_mem _ hy)]
theorem flatP_stable {zs : List Str} : ∀ {m k : Nat} {x : PyData}, Ex zs m x → m ≤ k → flatP k x = flatP m x
  | 0, _, _, h, _ => by cases h
  | m + 1, 0, _, _, hk => by omega
  | m + 1, k + 1, x, h, hk => by
    simp only [flatP]
    rw [flatMap_congr fun y hy => flatP_stable (h.kids.1 y hy) (by omega : m ≤ k)]
/-- how many parts the parts of a list have -/
def szL (n : Nat) (l : List PyData) : Nat := (l.map fun y => (flatP n y).length).sum
theorem szL_append (n : Nat) (a b : List PyData) : szL n (a ++ b) = szL n a + szL n b := by
  unfold szL
  rw [List.map_append, List.sum_append]
theorem szL_cons (n : Nat) (x : PyData) (l : List PyData) : szL n (x :: l) = (flatP n x).length + szL n l := by
  unfold szL
  rw [List.map_cons, List.sum_cons]
theorem szL_sub {n : Nat} {a b : List PyData} (h : a.Sublist b) : szL n a ≤ szL n b := by
  induction h with
  | slnil => exact Nat.le_refl _
  | cons x _ ih =>
    rw [szL_cons]
    omega
  | cons_cons x _ ih =>
    rw [szL_cons, szL_cons]
    omega
theorem szL_kids {zs : List Str} {n : Nat} {x : PyData} (h : Ex zs n x) : szL n (kids x) + 1 = (flatP n x).length := by
  cases n with
  | zero => cases h
  | succ n =>
    have : szL (n + 1) (kids x) = ((kids x).flatMap (flatP n)).length := by
      unfold szL
      rw [List.length_flatMap]
      congr 1
      refine List.map_congr_left fun y hy => ?_
      rw [flatP_stable (h.kids.1 y hy) (Nat.le_succ n)]
    rw [this]
    simp only [flatP, List.length_cons]
theorem szL_len {zs : List Str} {n : Nat} {l : List PyData} (h : ∀ x, x ∈ l → Ex zs n x) : l.length ≤ szL n l := by
  induction l with
  | nil => exact Nat.zero_le _
  | cons x l ih =>
    have h1 := szL_kids (h x List.mem_cons_self)
    have h2 := ih fun y hy => h y (List.mem_cons_of_mem _ hy)
    rw [szL_cons, List.length_cons]
    omega
theorem dpAll_split {K : PySem.W.Frag} {H : Hp} : ∀ {a b : List V} {ds : List PyData}, DpAll K H (a ++ b) ds → ∃ d1 d2, ds = d1 ++ d2 ∧ DpAll K H a d1 ∧ DpAll K H b d2
  | [], b, ds, h => ⟨[], ds, rfl, .nil, h⟩
  | v :: a, b, ds, h => by
    cases h with
    | cons h1 h2 =>
    obtain ⟨d1, d2, rfl, g1, g2⟩ := dpAll_split h2
    exact ⟨_ :: d1, d2, rfl, .cons h1 g1, g2⟩
theorem dpAll_last {K : PySem.W.Frag} {H : Hp} {us : List V} {xs : List PyData} (h : DpAll K H us xs) (hne : us ≠ []) : ∃ y d xs', xs = xs' ++ [d] ∧ us[us.length - 1]? = some y ∧ DpAll K H us.dropLast xs' ∧ Dp K H y d := by
  have e := List.dropLast_concat_getLast hne
  rw [← e] at h
  obtain ⟨d1, d2, rfl, g1, g2⟩ := dpAll_split h
  cases g2 with
  | cons g3 g4 =>
  cases g4
  refine ⟨us.getLast hne, _, d1, rfl, ?_, g1, g3⟩
  rw [← List.getLast?_eq_getElem?, List.getLast?_eq_getLast hne]
section
variable {P : Program} {w : World} {K : PySem.W.Frag} {mg : Str → Option Value} {base : Heap}
abbrev s_contained_free : Stmt := topS 4
theorem sc_contained_free : FnScope ["expression"] ["expression"] (defScope s_contained_free) := ⟨rfl, rfl, rfl, by decide +kernel, rfl, by decide +kernel, by decide +kernel⟩
def sp_contained_free (K : PySem.W.Frag) : Sp := fun vs H Q _ => ∃ (v : V) (x : PyData) (zs : List Str) (n : Nat), vs = [v] ∧ Dp K H v x ∧ Ex zs (n + 1) x ∧ ∀ H' p us, Same H H' → H p = none → H' p = some (.lst us) → DpAll K H' us (kidsF x) → Q (.ref p) H'
theorem ok_contained_free {f fc : Addr} {fd fdc : FuncData} {k : Nat} (F : Fun K "contained_free" "contained_free" s_contained_free f fd) (Gc : FnOk P w K mg base CX0 k fc fdc ["expression", "wanted"] (sp_contained_of K)) (gc : mg "contained_of" = some (.ref fc)) (Kc : PySem.W.keepIn K (.ref fc) = true) (bc : Binds K fdc ["expression", "wanted"] []) :
    FnOk P w K mg base CX0 (k + 1) f fd ["expression"] (sp_contained_free K) := by
  have nd := sc_contained_free.nd
  refine F.ok sc_contained_free (fun vs H Q E h => ?_) (fun cdv A outer s H vs Q E hr h => ?_)
  · obtain ⟨v, x, zs, n, rfl, _⟩ := h
    rfl
  obtain ⟨v, x, zs, n, rfl, hd, he, q⟩ := h
  refine ⟨_, (pss_one (ps_ret (pe_call Gc hr (by rfl) gc Kc bc .nil pass0 (pa_cons (pv 0) (pa_cons (pe_tup (pa_cons pe_str pa_nil)) pa_nil))))), ?_⟩
  obtain ⟨wd, fs, rest, rfl, ht, hfit⟩ := he.form
  have hk := kidsF_of (rest := rest) ht
  have hkl := (kidsF_sub (.tuple (.str wd :: rest))).length_le
  have hkl2 := he.kids.2
  have hfl := he.flat
  cases hd with
  | tup hS hA =>
  rename_i a vs
  refine ⟨.ref a, rfl, Nat.le_trans (show 1 ≤ 2 by decide) le2, fun t nt => ?_⟩
  have st := same_upd (o := .tup [.str "free"]) nt
  refine ⟨a, t, wd, fs, W1, rest, rfl, dp_keep (KeepT.of st) _ _ hfl (.tup hS hA), ht, hfit, ?_, ?_, .inl (.inl upd_same), fun H' p us s1 np hp hu => ?_⟩
  · rw [flatD, flatDs, Bool.and_eq_true] at hfl
    exact hfl.2
  · rw [← hk]
    omega
  · rw [← hk] at hu
    exact q H' p us (st.trans s1) (st.free np) hp hu
end
end L19

namespace L19
open PySem PySem.Spec PyProof.Rows L2 GR WX TX
section
variable {P : Program} {w : World} {K : PySem.W.Frag} {mg : Str → Option Value} {base : Heap}
abbrev s_has_free_key : Stmt := topS 11
theorem sc_has_free_key : FnScope ["expression", "todo", "part"] ["expression"] (defScope s_has_free_key) := ⟨rfl, rfl, rfl, by decide +kernel, rfl, by decide +kernel, by decide +kernel⟩
/-- what is still to do: the list at td -/
def FInv (K : PySem.W.Frag) (zs : List Str) (n : Nat) (x : PyData) (v : V) (td : Addr) (H0 : Hp) (m : Nat) (σ : L2.St) (H : Hp) : Prop :=
  ∃ (z : Option V) (us : List V) (xs : List PyData), σ = [some v, some (.ref td), z] ∧ H td = some (.lst us) ∧ DpAll K H us xs ∧ (∀ y, y ∈ xs → Ex zs n y) ∧ m = szL n xs ∧ m ≤ 2100000 ∧ freeKey n x = xs.any (freeKey n) ∧ (∀ b o, b ≠ td → H0 b = some o → H b = some o)
theorem ok_has_free_key {f fc : Addr} {fd fdc : FuncData} {k : Nat} (F : Fun K "has_free_key" "has_free_key" s_has_free_key f fd) (Gc : FnOk P w K mg base CX0 k fc fdc ["expression"] (sp_contained_free K)) (gc : mg "contained_free" = some (.ref fc)) (Kc : PySem.W.keepIn K (.ref fc) = true) (bc : Binds K fdc ["expression"] []) :
    FnOk P w K mg base CX0 (k + 1) f fd ["expression"] (sp_test K freeKey) := by
  have nd := sc_has_free_key.nd
  refine F.ok sc_has_free_key (fun vs H Q E h => ?_) (fun cdv A outer s H vs Q E hr h => ?_)
  · obtain ⟨v, x, zs, n, rfl, _⟩ := h
    rfl
  obtain ⟨v, x, zs, n, rfl, hd, he, hb, hn, h60, hz, q⟩ := h
  refine ⟨_, (pss_cons (ps_set (i := 1) nd rfl (.inl rfl) (pe_lst (pa_cons (pv 0) pa_nil)))
      (pss_cons (ps_while PassesOwn.never (pt_truth (pv 1) (fun _ => rfl))
      (pss_cons (ps_set (i := 2) nd rfl (.inl rfl) (pe_bm0 PySem.F.plainAttrs_list PySem.F.slot_list_pop PySem.F.type_list_pop mt_pop (pv 1)))
        (pss_cons (ps_if (pt_cmpR op_eq (pe_ix ix_tup (pv 2) pe_int (fun _ _ => rfl)) pe_str (nomark _))
        (pss_one (ps_ret pe_bl))
        pss_nil)
        (pss_one (ps_expr (pe_bm PySem.F.plainAttrs_list PySem.F.slot_list_extend PySem.F.type_list_extend mt_extend (pv 1) (pa_cons (pe_call Gc hr (by rfl) gc Kc bc .nil pass0 (pa_cons (pv 2) pa_nil)) pa_nil)))))))
      (pss_one (ps_ret pe_bl)))), ?_⟩
  refine ⟨v, rfl, small_le (show 1 ≤ 1000 by decide), fun td ntd => ?_⟩
  have sl := same_upd (o := .lst [v]) ntd
  have hsz : szL n [x] ≤ 2100000 := by
    have := flatP_len he
    rw [szL_cons]
    show _ + 0 ≤ _
    omega
  refine ⟨FInv K zs n x v td H, ⟨szL n [x], none, [v], [x], rfl, upd_same, .cons (he.kept (KeepT.of sl) hd) .nil, ?_, rfl, hsz, ?_, fun b o _ e => sl _ _ e⟩, ?_⟩
  · intro y hy
    rw [List.mem_singleton.mp hy]
    exact he
  · rw [List.any_cons, List.any_nil, Bool.or_false]
  · rintro m σ H' ⟨z, us, xs, rfl, hu, hA, hE, rfl, hm, hf, kk⟩
    have lu := dpAll_len hA
    have fin : ∀ H2, (∀ b o, b ≠ td → H' b = some o → H2 b = some o) → Same H H2 := fun H2 s2 b o e => s2 _ _ (ne_of_none e ntd) (kk _ _ (ne_of_none e ntd) e)
    refine ⟨.ref td, rfl, !us.isEmpty, .inl ⟨us, .inl (.inl hu), rfl⟩, ?_⟩
    cases hus : us with
    | nil =>
      subst hus
      cases hA
      rw [List.any_nil] at hf
      refine iteF ?_
      have := q H' (fin H' fun b o _ e => e)
      rw [hf] at this
      exact this
    | cons u0 ur =>
      have hne : us ≠ [] := by
        rw [hus]
        exact List.cons_ne_nil _ _
      rw [← hus]
      have full : (!us.isEmpty) = true := by
        rw [hus]
        rfl
      rw [full]
      obtain ⟨y, d, xs', rfl, hy, hA', hyd⟩ := dpAll_last hA hne
      have ed := hE d (List.mem_append_right _ (List.mem_singleton.mpr rfl))
      have hE' : ∀ y, y ∈ xs' → Ex zs n y := fun y hy => hE y (List.mem_append_left _ hy)
      obtain ⟨n', rfl⟩ : ∃ n', n = n' + 1 := by
        cases n with
        | zero => cases ed
        | succ n' => exact ⟨n', rfl⟩
      have hsd := szL_kids ed
      have hs1 : szL (n' + 1) (xs' ++ [d]) = szL (n' + 1) xs' + (flatP (n' + 1) d).length := by
        rw [szL_append, szL_cons]
        rfl
      have hsub := szL_sub (n := n' + 1) (kidsF_sub d)
      have hlx := szL_len hE'
      have hlk : (kidsF d).length ≤ szL (n' + 1) (kidsF d) := szL_len fun y hy => (ed.kidsF y hy).mono (Nat.le_succ n')
      refine iteT ⟨fun σ' H'' => ∃ m', m' < szL (n' + 1) (xs' ++ [d]) ∧ FInv K zs (n' + 1) x v td H m' σ' H'', fun σ' H'' h => h, ?_⟩
      refine ⟨.ref td, rfl, .inl ⟨rfl, _, .inl (.inl hu)⟩, td, us, y, rfl, rfl, hu, hy, ?_⟩
      have k1 : KeepT H' (upd H' td (.lst us.dropLast)) := KeepT.lst hu
      have hu1 : upd H' td (.lst us.dropLast) td = some (.lst us.dropLast) := upd_same
      have keep1 : ∀ b o, b ≠ td → H' b = some o → upd H' td (.lst us.dropLast) b = some o := fun b o hb e => by
        rw [upd_ne hb]
        exact e
      have fx' := flat_all hE'
      have hA1 := dp_keepAll k1 _ _ fx' hA'
      have hyd1 := ed.kept k1 hyd
      revert k1 hu1 keep1 hA1 hyd1
      generalize upd H' td (.lst us.dropLast) = H1
      intro k1 hu1 keep1 hA1 hyd1
      obtain ⟨wd, fs, rest, hdd, hft, hff⟩ := ed.form
      have hhead : headW d = wd := by
        rw [hdd]
        rfl
      have hyd2 := hyd1
      rw [hdd] at hyd2
      cases hyd2 with
      | tup hS hB =>
      cases hB with
      | cons hw hB =>
      cases hw
      rename_i a vs
      have hfd : freeKey (n' + 1) d = (decide (wd = "key") || (kidsF d).any (freeKey n')) := by
        simp only [freeKey, hhead]
      have hany : (kidsF d).any (freeKey n') = (kidsF d).any (freeKey (n' + 1)) := any_congr fun y hy => (free_stable (ed.kidsF y hy) (Nat.le_succ n')).symm
      rw [List.any_append, List.any_cons, List.any_nil, Bool.or_false, hfd] at hf
      refine ⟨.ref a, rfl, a, _, 0, .str wd, rfl, rfl, hS, at0, rfl, _, rfl, ite2 (fun e1 => ?_) (fun e1 => ?_)⟩
      · have e1 : wd = "key" := by simpa using e1
        have := q H1 (fin H1 keep1)
        rw [hf, decide_eq_true e1, Bool.true_or, Bool.or_true] at this
        exact this
      · have e1 : wd ≠ "key" := fun z => e1 (by simpa using z)
        rw [decide_eq_false e1, Bool.false_or, hany, ← List.any_append] at hf
        refine ⟨.ref td, rfl, .inl ⟨rfl, _, .inl (.inl hu1)⟩, .ref a, rfl, .ref a, d, zs, n', rfl, hyd1, ed, fun H2 p us2 s2 np hp hu2 => ?_⟩
        have htd2 := s2 _ _ hu1
        have l1 := dpAll_len hA1
        have l2 := dpAll_len hu2
        have k2 : KeepT H2 (upd H2 td (.lst (us.dropLast ++ us2))) := KeepT.lst htd2
        refine ⟨td, p, us.dropLast, us2, rfl, rfl, htd2, hp, ?_, szL (n' + 1) (xs' ++ kidsF d), ?_, some (.ref a), us.dropLast ++ us2, xs' ++ kidsF d, rfl, upd_same, ?_, ?_, rfl, ?_, hf, fun b o hb e => ?_⟩
        · rw [l1, l2, sizeLine_eq]
          omega
        · rw [szL_append]
          omega
        · exact dpAll_append (dp_keepAll ((KeepT.of s2).trans k2) _ _ fx' hA1) (dp_keepAll k2 _ _ (flat_all ed.kidsF) hu2)
        · intro y hy
          rcases List.mem_append.mp hy with hy | hy
          · exact hE' y hy
          · exact (ed.kidsF y hy).mono (Nat.le_succ n')
        · rw [szL_append]
          omega
        · rw [upd_ne hb]
          exact s2 _ _ (keep1 _ _ hb (kk _ _ hb e))
end
end L19

namespace L19
open PySem PySem.Spec PyProof.Rows L2 GR WX TX
def closedE (n : Nat) (x : PyData) : Bool := (vars (lvls n [x])).isEmpty && !freeKey n x
section
variable {P : Program} {w : World} {K : PySem.W.Frag} {mg : Str → Option Value} {base : Heap}
abbrev s_is_closed : Stmt := topS 12
theorem sc_is_closed : FnScope ["expression"] ["expression"] (defScope s_is_closed) := ⟨rfl, rfl, rfl, by decide +kernel, rfl, by decide +kernel, by decide +kernel⟩
theorem ok_is_closed {f fc ff : Addr} {fd fdc fdf : FuncData} {k : Nat} (F : Fun K "is_closed" "is_closed" s_is_closed f fd) (Gc : FnOk P w K mg base CX0 k fc fdc ["expression"] (sp_variables_of K)) (gc : mg "variables_of" = some (.ref fc)) (Kc : PySem.W.keepIn K (.ref fc) = true) (bc : Binds K fdc ["expression"] [])
    (Gf : FnOk P w K mg base CX0 k ff fdf ["expression"] (sp_test K freeKey)) (gf : mg "has_free_key" = some (.ref ff)) (Kf : PySem.W.keepIn K (.ref ff) = true) (bf : Binds K fdf ["expression"] []) : FnOk P w K mg base CX0 (k + 1) f fd ["expression"] (sp_test K closedE) := by
  have nd := sc_is_closed.nd
  refine F.ok sc_is_closed (fun vs H Q E h => ?_) (fun cdv A outer s H vs Q E hr h => ?_)
  · obtain ⟨v, x, zs, n, rfl, _⟩ := h
    rfl
  obtain ⟨v, x, zs, n, rfl, hd, he, hb, hn, h60, hz, q⟩ := h
  refine ⟨_, (pss_one (ps_ret (pe_and (pe_notT (pe_call Gc hr (by rfl) gc Kc bc .nil pass0 (pa_cons (pv 0) pa_nil))) (pe_one (pe_not (pe_call Gf hr (by rfl) gf Kf bf .nil pass0 (pa_cons (pv 0) pa_nil))))))), ?_⟩
  refine ⟨v, rfl, v, x, zs, n, rfl, hd, he, hb, h60, fun H1 p ys s1 np hp hnd hst hm => ⟨!(ys.map V.str).isEmpty, .inr (.inl ⟨_, .inl (.inl hp), rfl⟩), _, rfl, ?_⟩⟩
  have ev : (!(!(ys.map V.str).isEmpty)) = (vars (lvls n [x])).isEmpty := by
    rw [Bool.not_not]
    cases hv : vars (lvls n [x]) with
    | nil =>
      rw [hv] at hm
      cases ys with
      | nil => rfl
      | cons y ys => exact absurd ((hm y).mp List.mem_cons_self) (List.not_mem_nil)
    | cons z zs' =>
      rw [hv] at hm
      cases ys with
      | nil => exact absurd ((hm z).mpr List.mem_cons_self) (List.not_mem_nil)
      | cons y ys => rfl
  rw [ev]
  cases hc : (vars (lvls n [x])).isEmpty with
  | false =>
    have := q H1 s1
    unfold closedE at this
    rw [hc] at this
    exact iteF this
  | true =>
    refine iteT ⟨v, rfl, v, x, zs, n, rfl, he.kept (KeepT.of s1) hd, he, hb, hn, h60, hz, fun H2 s2 => ⟨_, rfl, ?_⟩⟩
    have := q H2 (s1.trans s2)
    unfold closedE at this
    rw [hc, Bool.true_and] at this
    exact this
end
end L19

namespace L19
open PySem PySem.Spec PyProof.Rows L2 GR
theorem aggk_aggs {o : Str} {a b : Nat} (h : (o, a, b) ∈ aggk) : (o, a + b + 2) ∈ aggs ∧ a + b ≤ 2 := by
  simp only [aggk, List.mem_cons, List.not_mem_nil, or_false, Prod.mk.injEq] at h
  rcases h with ⟨rfl, rfl, rfl⟩ | ⟨rfl, rfl, rfl⟩ | ⟨rfl, rfl, rfl⟩ | ⟨rfl, rfl, rfl⟩ <;> exact ⟨by decide, by decide⟩
theorem ex_row {zs : List Str} {t : Str} {n : Nat} (hi : ("in" : Str) ∈ zs) (ht : t ∈ zs) (hn : 2 ≤ n) : Ex zs n (rowX t) := by
  obtain ⟨k, rfl⟩ : ∃ k, n = k + 2 := ⟨n - 2, by omega⟩
  exact .cell (k + 1) t "in" _ ht hi (.leaf k _ .key)
theorem Cx.ex {zs sc : List Str} {b : Bool} {n : Nat} {x : PyData} (hi : ("in" : Str) ∈ zs) (h : Cx zs sc b n x) : Ex (zs ++ sc) n x := by
  have l : ∀ {z : Str}, z ∈ zs → z ∈ zs ++ sc := fun h => List.mem_append_left _ h
  induction h with
  | int b n i h1 h2 => exact .leaf n _ (.int i h1 h2)
  | let_ b n i g9 h1 h2 => exact .leaf n _ (.let_ i h1 h2)
  | key n => exact .leaf n _ .key
  | var b n z h1 => exact .leaf n _ (.var z (List.mem_append_right _ h1))
  | cell b n t v x h1 h2 _ ih => exact .cell n t v x (l h1.1) (l h2.1) ih
  | op b n o x y h1 _ _ ih1 ih2 =>
    refine .op n o x y ?_ ih1 ih2
    simp only [ops5, List.mem_cons, List.not_mem_nil, or_false] at h1
    rcases h1 with rfl | rfl | rfl | rfl | rfl <;> decide
  | at_ b n x y _ _ ih1 ih2 => exact .op n "at" x y (by decide) ih1 ih2
  | iff b n x y z _ _ _ ih1 ih2 ih3 => exact .iff n x y z ih1 ih2 ih3
  | agg b n o t p xs vs ds g0 h0 h1 h2 h3 _ _ _ _ ih1 ih2 ih3 ih4 =>
    refine .agg n o t xs (rowX t :: p :: (vs ++ ds)) ?_ (l h2.1) (by omega) (fun x hx => (ih1 x hx).mono (by omega)) fun y hy => ?_
    · rw [List.length_cons, List.length_cons, List.length_append]
      exact (aggk_aggs h1).1
    · rcases List.mem_cons.mp hy with rfl | hy
      · exact ex_row (l hi) (l h2.1) h0
      rcases List.mem_cons.mp hy with rfl | hy
      · exact ih2
      rcases List.mem_append.mp hy with hy | hy
      · exact ih3 y hy
      · exact ih4 y hy
/-- what it contains is of the same kind -/
theorem Cx.kids {zs sc : List Str} {b : Bool} {n : Nat} {x : PyData} (hi : ("in" : Str) ∈ zs) (h : Cx zs sc b (n + 1) x) : ∀ y, y ∈ kids x → ∃ b', Cx zs sc b' n y := by
  cases h with
  | int b n i h1 h2 => rw [kids_leaf (zs := zs) (.int i h1 h2)]; exact fun y hy => (nomatch hy)
  | let_ b n i g9 h1 h2 => rw [kids_leaf (zs := zs) (.let_ i h1 h2)]; exact fun y hy => (nomatch hy)
  | key n => rw [kids_leaf (zs := zs) .key]; exact fun y hy => (nomatch hy)
  | var b n z h1 => rw [kids_leaf (zs := sc) (.var z h1)]; exact fun y hy => (nomatch hy)
  | cell b n t v x h1 h2 h3 => rw [kids_cell]; exact fun y hy => by rw [List.mem_singleton.mp hy]; exact ⟨b, h3⟩
  | op b n o x y h1 h2 h3 =>
    rw [kids_op (by simp only [ops5, List.mem_cons, List.not_mem_nil, or_false] at h1; rcases h1 with rfl | rfl | rfl | rfl | rfl <;> decide)]
    intro z hz
    simp only [List.mem_cons, List.not_mem_nil, or_false] at hz
    rcases hz with rfl | rfl
    · exact ⟨b, h2⟩
    · exact ⟨b, h3⟩
  | at_ b n x y h2 h3 =>
    rw [kids_op (by decide)]
    intro z hz
    simp only [List.mem_cons, List.not_mem_nil, or_false] at hz
    rcases hz with rfl | rfl
    · exact ⟨b, h2⟩
    · exact ⟨true, h3⟩
  | iff b n x y z h1 h2 h3 =>
    rw [kids_if]
    intro u hu
    simp only [List.mem_cons, List.not_mem_nil, or_false] at hu
    rcases hu with rfl | rfl | rfl
    · exact ⟨b, h1⟩
    · exact ⟨b, h2⟩
    · exact ⟨b, h3⟩
  | agg b n o t p xs vs ds g0 h0 h1 h2 h3 h4 h5 h6 h7 =>
    rw [kids_agg (by rw [List.length_cons, List.length_cons, List.length_append]; exact (aggk_aggs h1).1)]
    intro y hy
    rcases List.mem_append.mp hy with hy | hy
    · exact ⟨b, (h4 y hy).mono (by omega)⟩
    rcases List.mem_cons.mp hy with rfl | hy
    · obtain ⟨k, rfl⟩ : ∃ k, n = k + 2 := ⟨n - 2, by omega⟩
      exact ⟨true, .cell true (k + 1) t "in" _ h2 ⟨hi, by decide⟩ (.key k)⟩
    rcases List.mem_cons.mp hy with rfl | hy
    · exact ⟨true, h5⟩
    rcases List.mem_append.mp hy with hy | hy
    · exact ⟨true, h6 y hy⟩
    · exact ⟨b, h7 y hy⟩
/-- all its parts are -/
theorem Cx.parts {zs sc : List Str} (hi : ("in" : Str) ∈ zs) : ∀ {n : Nat} {b : Bool} {x : PyData}, Cx zs sc b n x → ∀ y, y ∈ flatP n x → ∃ b' m, Cx zs sc b' m y
  | 0, b, x, h, y, hy => by cases h
  | n + 1, b, x, h, y, hy => by
    rw [flatP] at hy
    rcases List.mem_cons.mp hy with rfl | hy
    · exact ⟨b, n + 1, h⟩
    · obtain ⟨k, hk, hy⟩ := List.mem_flatMap.mp hy
      obtain ⟨b', hb⟩ := h.kids hi k hk
      exact Cx.parts hi hb y hy
theorem lvls_mem {n : Nat} {x y : PyData} : y ∈ lvls n [x] ↔ y ∈ flatP n x := by
  have := (lvls_perm n [x]).mem_iff (a := y)
  rw [this, List.flatMap_cons, List.flatMap_nil, List.append_nil]
theorem Cx.novar {zs : List Str} {b : Bool} {m : Nat} {x : PyData} (h : Cx zs [] b m x) : varName x = none := by
  cases h with
  | var b n z h1 => exact (nomatch h1)
  | op b n o x y h1 _ _ =>
    refine varName_no ?_
    simp only [ops5, List.mem_cons, List.not_mem_nil, or_false] at h1
    rcases h1 with rfl | rfl | rfl | rfl | rfl <;> decide
  | agg b n o t p xs vs ds g0 h0 h1 h2 h3 h4 h5 h6 h7 =>
    refine varName_no ?_
    simp only [aggk, List.mem_cons, List.not_mem_nil, or_false, Prod.mk.injEq] at h1
    rcases h1 with ⟨rfl, _⟩ | ⟨rfl, _⟩ | ⟨rfl, _⟩ | ⟨rfl, _⟩ <;> decide
  | _ => exact varName_no (by decide)
theorem Cx.novars {zs : List Str} {b : Bool} {n : Nat} {x : PyData} (hi : ("in" : Str) ∈ zs) (h : Cx zs [] b n x) : vars (lvls n [x]) = [] := by
  unfold vars
  rw [List.filterMap_eq_nil_iff]
  intro y hy
  obtain ⟨b', m, hm⟩ := h.parts hi y (lvls_mem.mp hy)
  exact hm.novar
theorem q_no {W : List Str} {f : Str} {d : PyData} {fs : List Str} {ds : List PyData} (h : f ≠ "extra") (h2 : f ∉ W) : pick W (f :: fs) (d :: ds) = pick W fs ds := by
  simp only [pick, if_neg h, if_neg h2, List.nil_append]
theorem q_yes {W : List Str} {f : Str} {d : PyData} {fs : List Str} {ds : List PyData} (h : f ≠ "extra") (h2 : f ∈ W) : pick W (f :: fs) (d :: ds) = d :: pick W fs ds := by
  simp only [pick, if_neg h, if_pos h2, List.cons_append, List.nil_append]
theorem q_ex {W : List Str} {xs : List PyData} {fs : List Str} {ds : List PyData} : pick W ("extra" :: fs) (.tuple xs :: ds) = xs ++ pick W fs ds := by
  simp only [pick, if_pos, items]
theorem q_nil {W : List Str} : pick W [] [] = [] := rfl
theorem head_no {o : Str} {ds : List PyData} (h : o ≠ "key") : decide (headW (.tuple (.str o :: ds)) = "key") = false := by
  refine decide_eq_false ?_
  exact h
theorem Cx.nokey {zs sc : List Str} : ∀ {n : Nat} {x : PyData}, Cx zs sc false n x → freeKey n x = false
  | 0, x, h => by cases h
  | n + 1, x, h => by
    rw [freeKey, Bool.or_eq_false_iff]
    cases h with
    | int b n i h1 h2 => exact ⟨head_no (by decide), by rw [kidsF_of (fs := ["value"]) (by decide), q_no (by decide) (by decide), q_nil]; rfl⟩
    | let_ b n i g9 h1 h2 => exact ⟨head_no (by decide), by rw [kidsF_of (fs := ["position"]) (by decide), q_no (by decide) (by decide), q_nil]; rfl⟩
    | var b n z h1 => exact ⟨head_no (by decide), by rw [kidsF_of (fs := ["name"]) (by decide), q_no (by decide) (by decide), q_nil]; rfl⟩
    | cell b n t v x h1 h2 h3 => exact ⟨head_no (by decide), by rw [kidsF_of (fs := ["name", "free", "name"]) (by decide), q_no (by decide) (by decide), q_yes (by decide) (by decide), q_no (by decide) (by decide), q_nil, List.any_cons, h3.nokey]; rfl⟩
    | op b n o x y h1 h2 h3 =>
      have e : kidsF (.tuple [.str o, x, y]) = [x, y] := by
        simp only [ops5, List.mem_cons, List.not_mem_nil, or_false] at h1
        rcases h1 with rfl | rfl | rfl | rfl | rfl <;> rw [kidsF_of (fs := ["free", "free"]) (by decide), q_yes (by decide) (by decide), q_yes (by decide) (by decide), q_nil]
      rw [e, List.any_cons, List.any_cons, h2.nokey, h3.nokey]
      refine ⟨?_, rfl⟩
      simp only [ops5, List.mem_cons, List.not_mem_nil, or_false] at h1
      rcases h1 with rfl | rfl | rfl | rfl | rfl <;> exact head_no (by decide)
    | at_ b n x y h2 h3 => exact ⟨head_no (by decide), by rw [kidsF_of (fs := ["free", "bound"]) (by decide), q_yes (by decide) (by decide), q_no (by decide) (by decide), q_nil, List.any_cons, h2.nokey]; rfl⟩
    | iff b n x y z h1 h2 h3 => exact ⟨head_no (by decide), by rw [kidsF_of (fs := ["free", "free", "free"]) (by decide), q_yes (by decide) (by decide), q_yes (by decide) (by decide), q_yes (by decide) (by decide), q_nil, List.any_cons, List.any_cons, List.any_cons, h1.nokey, h2.nokey, h3.nokey]; rfl⟩
    | agg b n o t p xs vs ds g0 h0 h1 h2 h3 h4 h5 h6 h7 =>
      have e : kidsF (.tuple (.str o :: .str t :: .tuple xs :: rowX t :: p :: (vs ++ ds))) = xs ++ ds := by
        simp only [aggk, List.mem_cons, List.not_mem_nil, or_false, Prod.mk.injEq] at h1
        rcases h1 with ⟨rfl, hv, hd⟩ | ⟨rfl, hv, hd⟩ | ⟨rfl, hv, hd⟩ | ⟨rfl, hv, hd⟩
        · rw [List.eq_nil_of_length_eq_zero hv, List.eq_nil_of_length_eq_zero hd]
          rw [kidsF_of (fs := ["name", "extra", "bound", "bound"]) (by decide), q_no (by decide) (by decide), q_ex, q_no (by decide) (by decide), List.nil_append, q_no (by decide) (by decide), q_nil]
        · obtain ⟨v, rfl⟩ := List.length_eq_one_iff.mp hv
          rw [List.eq_nil_of_length_eq_zero hd]
          rw [kidsF_of (fs := ["name", "extra", "bound", "bound", "bound"]) (by decide), q_no (by decide) (by decide), q_ex, q_no (by decide) (by decide), List.append_nil, q_no (by decide) (by decide), q_no (by decide) (by decide), q_nil]
        · obtain ⟨v, rfl⟩ := List.length_eq_one_iff.mp hv
          obtain ⟨d, rfl⟩ := List.length_eq_one_iff.mp hd
          rw [kidsF_of (fs := ["name", "extra", "bound", "bound", "bound", "free"]) (by decide), q_no (by decide) (by decide), q_ex, q_no (by decide) (by decide), List.cons_append, List.nil_append, q_no (by decide) (by decide), q_no (by decide) (by decide), q_yes (by decide) (by decide), q_nil]
        · rw [List.eq_nil_of_length_eq_zero hv]
          obtain ⟨d, rfl⟩ := List.length_eq_one_iff.mp hd
          rw [kidsF_of (fs := ["name", "extra", "bound", "bound", "free"]) (by decide), q_no (by decide) (by decide), q_ex, q_no (by decide) (by decide), List.nil_append, q_no (by decide) (by decide), q_yes (by decide) (by decide), q_nil]
      rw [e, List.any_eq_false]
      refine ⟨?_, fun y hy => ?_⟩
      · simp only [aggk, List.mem_cons, List.not_mem_nil, or_false, Prod.mk.injEq] at h1
        rcases h1 with ⟨rfl, _⟩ | ⟨rfl, _⟩ | ⟨rfl, _⟩ | ⟨rfl, _⟩ <;> exact head_no (by decide)
      · rcases List.mem_append.mp hy with hy | hy
        · rw [((h4 y hy).mono (show 1 ≤ n by omega)).nokey]; exact Bool.false_ne_true
        · rw [(h7 y hy).nokey]; exact Bool.false_ne_true
theorem Cx.closed {zs : List Str} {n : Nat} {x : PyData} (hi : ("in" : Str) ∈ zs) (h : Cx zs [] false n x) : closedE n x = true := by
  unfold closedE
  rw [h.novars hi, h.nokey]
  rfl
end L19

set_option maxHeartbeats 400000
/-! CL: defs that are handed a function made by another def (its captured cells stand in frames that run), and call it. -/
namespace CLo
open PySem PySem.Spec PyProof.Rows L2 GR NdefX LamX
/-- a def by its promise sp i, i of what holds at its entry -/
structure FnP {ι : Type} (P : Program) (w : World) (K : PySem.W.Frag) (mg : Str → Option Value) (base : Heap) (k : Nat) (f : Addr) (fd : FuncData) (ps : List Str) (pre : ι → Around → List Env → Shared → Hp → Prop) (sp : ι → Sp) : Prop where
  size : ∀ i vs H Q E, sp i vs H Q E → vs.length = ps.length
  go : ∀ (i : ι) (A : Around) (outer : List Env) (s : Shared) (H : Hp) (args : Args) (us : List Value) (vs : List V) (Q : VK) (E : XK),
    pre i A outer s H → Room k A → Env0 P w K mg base A outer s H → BindsTo s fd args (ps.zip us) → Vals vs us → sp i vs H Q E → codeAny (model P w) A (.call (.ref f) args) (CR CX0 outer P w H s Q E) s
section
variable {ι : Type} {P : Program} {w : World} {K : PySem.W.Frag} {mg : Str → Option Value} {base : Heap} {pre : ι → Around → List Env → Shared → Hp → Prop} {sp : ι → Sp}
theorem FnP.mono {j k : Nat} {f : Addr} {fd : FuncData} {ps : List Str} (F : FnP P w K mg base j f fd ps pre sp) (h : j ≤ k) : FnP P w K mg base k f fd ps pre sp :=
  ⟨F.size, fun i A outer s H args us vs Q E hp hr => F.go i A outer s H args us vs Q E hp (hr.mono h)⟩
theorem ok_p {x qual : Str} {st : Stmt} {f : Addr} {fd : FuncData} {N ps : List Str} {k : Nat} (F : Fun K x qual st f fd) (S : FnScope N ps (defScope st)) (size : ∀ i vs H Q E, sp i vs H Q E → vs.length = ps.length)
    (body : ∀ (i : ι) (cdv : Value) (A : Around) (outer : List Env) (s : Shared) (H : Hp) (vs : List V) (Q : VK) (E : XK), pre i A outer s H → K.lookup f = K.lookup f → Room k (A.deeper (envOfC qual (defScope st) s.heap.objs.size f cdv)) → sp i vs H Q E →
      ∃ t, PSs (cxOf CX0 P w K mg base N qual (defScope st) f cdv A outer s H E).nox (defBody st) t ∧ t { nx := fun _ H' => Q .non H', rt := Q } (start N vs) H) : FnP P w K mg base (k + 1) f fd ps pre sp := by
  obtain ⟨oc, od, kV, doc, pm, an, cdv, ct, osl, rfl, lk, hcd⟩ := F.ex
  refine ⟨size, fun i A outer s H args us vs Q E hp room e0 bnd rel hsp => ?_⟩
  have inK : K.In s.heap := e0.mod.kin.keeps fun b o q => (e0.bs b o q).1
  obtain ⟨t, ht, hq⟩ := body i cdv A outer s H vs Q E hp rfl (room.deeper _) hsp
  refine codeAny_call_function room.depth (inK f _ lk) rfl S.co S.gen rfl (PySem.W.codeRec_of inK hcd) (bnd _ _ _ _ (wpAny_newFunctionEnv_cells S.kind (fun ⟨n, v⟩ hy => ?_) fun env he s1 inC => ?_))
  · exact (S.par n (List.of_mem_zip hy).1).elim .inl fun q => .inr ⟨q, PySem.W.cellsFrom_some _ _ _ (.inl q)⟩
  · cases he
    refine ⟨(e0.mod.nolimit.keeps fun b o q => (e0.bs b o q).1).keeps inC.toInCall.keep, codeAny_func ?_⟩
    have I0 := inv_start (CX := CX0) (P := P) (w := w) (K := K) (mg := mg) (base := base) (E := E) S room.hd e0 (size i _ _ _ _ hsp) rel inC
    refine wpAny_mono (ht.nox.run [] s1 (start N vs) H _ I0 hq) ?_ (fun _ _ z => z)
    rintro (_ | _ | _ | u) s' hs
    · obtain ⟨σ', H', J, q⟩ := hs
      exact ⟨.non, H', J.os, J.bare, J.base, J.hok, rfl, q⟩
    · obtain ⟨_, _, _, q⟩ := hs
      exact q.elim
    · obtain ⟨_, _, _, q⟩ := hs
      exact q.elim
    · obtain ⟨v, σ', H', J, rv, q⟩ := hs
      exact ⟨v, H', J.os, J.bare, J.base, J.hok, rv, q⟩
end
/-- a cell of the running def is no frame's own object -/
theorem cell_out {X : Cx} {pins : List (Addr × Obj)} {σ : L2.St} {H : Hp} {s : Shared} (I : Inv X pins σ H s) {y : Str} {c : Addr} (e : X.env.cells.lookup y = some c) (hf : X.fn y = true) : c ∉ frs X.stack := fun hc => by
  rcases List.mem_cons.mp (I.stkSub c hc) with z | z
  · exact I.cne y c e z
  · obtain ⟨_, o, ho, _⟩ := I.ok.funs.mem z
    exact absurd (Nat.lt_of_lt_of_le (Heap.lt_size ho) (I.ok.cab y c hf e)) (Nat.lt_irrefl _)
/-- the function F stands at g, its captured cells hold ws -/
structure ClP (F : NF) (fr : List Str) (g : Addr) (ws : List (Option V)) (outer : List Env) (s : Shared) (H : Hp) : Prop where
  fn : H g = some (FnO g F)
  code : H F.c = some (CodeO F.c F.qual)
  cells : CellsAt F.cl fr ws s.heap H
  out : ∀ y c, F.cl.lookup y = some c → c ∉ frs outer
abbrev CI := NF × Addr × List (Option V)
def preC (Γ : NF → Prop) (fr : List Str) : CI → Around → List Env → Shared → Hp → Prop := fun i _ outer s H => Γ i.1 ∧ ClP i.1 fr i.2.1 i.2.2 outer s H
section
variable {X : Cx} {k : Nat} {f : Addr} {fd : FuncData} {ps : List Str} {x : Str} {p pos : Pos} {e : Expr} {es : List Expr} {t : TA}
/-- f(.., g, ..), g a function made here: its cells are this frame's -/
def tCallC (mk : Addr → NF) (js : List Nat) (sp : CI → Sp) (t : TA) : TE := fun σ H Q => t σ H fun vs H1 => ∃ g c', H1 g = some (FnO g (mk c')) ∧ H1 (mk c').c = some (CodeO (mk c').c (mk c').qual) ∧ sp (mk c', g, js.map (slotAt σ)) vs H1 Q E0
theorem pe_callC {Γ : NF → Prop} {mk : Addr → NF} {cl : List (Str × Addr)} {fr : List Str} {js : List Nat} {sp : CI → Sp} (G : FnP X.prog X.w X.K X.mg X.base k f fd ps (preC Γ fr) sp) (hΓ : ∀ c', Γ (mk c')) (hcl : ∀ c', (mk c').cl = cl) (cp : X.Ok → Caps X cl fr js) (hfn : ∀ y, X.fn y = true) (hr : Room k X.A) (gx : Gl X x) (hm : X.mg x = some (.ref f)) (hk : PySem.W.keepIn X.K (.ref f) = true) (hb : Binds X.K fd ps [])
    (ha : PA X (e :: es) t) (hdb : (x == ("__debug__" : Str)) = false := by decide) (he : starEach (e :: es) X.env = (false, eval e X.env) :: starEach es X.env := by rfl) (hpl : (backTo pos (starEach es X.env)).any (·.1) = false := by rfl) :
    PE X (.Call (.Name x p) (e :: es) [] pos) (tCallC mk js sp t) := by
  refine ⟨fun pins s σ H Q I h => ?_⟩
  refine wpAny_Call_Name_kw (ld_glob I gx hm (PySem.W.callWith_K (h₀ := X.base) I.ok.mod.kin hk (thn (ha.run pos pins s σ H _ I h) ?_) he hpl) hdb)
  rintro us s1 ⟨vs, H1, I1, r, g, c', hg, hgc, q⟩
  refine ⟨I1.kIn, ?_⟩
  have hl : us.length = ps.length := by
    rw [← r.length]
    exact G.size _ _ _ _ _ q
  have hB := hb s1 us I1.kIn (by simpa using hl)
  rw [List.append_nil] at hB
  have C := cp I1.ok
  have hC : CellsAt (mk c').cl fr (js.map (slotAt σ)) s1.heap H1 := by
    rw [hcl c']
    exact cells_of I1 C
  have hO : ∀ y c, (mk c').cl.lookup y = some c → c ∉ frs X.stack := fun y c z => by
    rw [hcl c'] at z
    exact cell_out I1 (C.sub y c z) (hfn y)
  refine wpAny_call (codeAny_mono (G.go (mk c', g, js.map (slotAt σ)) X.A X.stack s1 H1 ⟨us, []⟩ us vs Q E0 ⟨hΓ c', hg, hgc, hC, hO⟩ hr I1.env0 hB r q) ?_)
  rintro (er | (_ | _ | _ | u)) s2 hq
  · exact hq.elim
  · exact hq.elim
  · exact hq.elim
  · exact hq.elim
  · exact I1.after hq
/-- g(..), g handed in -/
def tCallF (F : NF) (i : Nat) (ws : List (Option V)) (sp : Addr → List (Option V) → Sp) (t : TA) : TE := fun σ H Q => ∃ g, σ[i]? = some (some (.ref g)) ∧ H g = some (FnO g F) ∧ t σ H fun vs H1 => H1 g = some (FnO g F) ∧ H1 F.c = some (CodeO F.c F.qual) ∧ sp g ws vs H1 Q E0
theorem pe_callF {F : NF} {fr : List Str} {i : Nat} {ws : List (Option V)} {sp : Addr → List (Option V) → Sp} {j : Nat} (M : ∀ g, NOk X.prog X.w X.K X.mg X.base CX0 j g F ps fr (sp g)) (C : CellsAt F.cl fr ws X.s_0.heap X.H_0) (out : ∀ y c, F.cl.lookup y = some c → c ∉ X.fs) (hx : X.ex = []) (hr : Room k X.A) (hj : j ≤ k)
    (hN : X.N[i]? = some x) (hv : Vis X.env.scope x) (ha : PA X (e :: es) t)
    (hd : (x == ("__debug__" : Str)) = false := by decide) (hcd : (x == ("__classdict__" : Str)) = false := by decide) (he : starEach (e :: es) X.env = (false, eval e X.env) :: starEach es X.env := by rfl) (hpl : (backTo pos (starEach es X.env)).any (·.1) = false := by rfl) :
    PE X (.Call (.Name x p) (e :: es) [] pos) (tCallF F i ws sp t) := by
  refine ⟨fun pins s σ H Q I ⟨g, hs, hf, ht⟩ => ?_⟩
  refine wpAny_Call_Name_kw (thn ((pe_var (pos := p) hN hv hd hcd).run pins s σ H (fun v H1 => v = .ref g ∧ H1 = H) I ⟨.ref g, hs, rfl, rfl⟩) fun u s1 ⟨v, H1, I1, r1, ev, eH⟩ => ?_)
  subst ev
  rw [eH] at I1
  obtain rfl : u = Value.ref g := r1
  refine PySem.W.callWith_F (first := []) (fnAt_of I1 hf) (thn (ha.run pos pins s1 σ H _ I1 ht) fun us s2 ⟨vs, H2, I2, r, h1, hc, q⟩ => ⟨fnAt_of I2 h1, ?_⟩) he hpl
  show wpAny _ _ (call (.ref g) us) _ _ _
  refine wpAny_call (codeAny_mono ((M g).run X.A X.stack s2 H2 us vs ws Q E0 (hr.mono hj) I2.env0 h1 hc (C.later out (fun _ _ _ => by rw [hx]; simp) I2) r q) ?_)
  rintro (er | (_ | _ | _ | u)) s3 hq
  · exact hq.elim
  · exact hq.elim
  · exact hq.elim
  · exact hq.elim
  · exact I2.after hq
end
/-! ### a def whose code object is known -/
structure FunC (K : PySem.W.Frag) (x qual : Str) (st : Stmt) (f : Addr) (fd : FuncData) (c : Addr) : Prop where
  ex : ∃ (oc : Value) (od : Option Addr) (kV doc pm : Value) (an : Option Addr) (ct : Value) (osl : Array (Option Value)),
    fd = PySem.W.fnOf x qual (defArgs st) (defBody st) (defScope st) .none kV doc pm an (.ref c) ct ∧ K.lookup f = some ⟨oc, od, .func fd, osl⟩ ∧ PySem.W.codeIn K (.ref c) qual = true
  kp : PySem.W.keepIn K (.ref f) = true
section
variable {P : Program} {w : World} {K : PySem.W.Frag} {mg : Str → Option Value} {base : Heap} {x qual : Str} {st : Stmt} {f c : Addr} {fd : FuncData}
theorem FunC.fun (F : FunC K x qual st f fd c) : Fun K x qual st f fd := by
  obtain ⟨oc, od, kV, doc, pm, an, ct, osl, e, lk, hcd⟩ := F.ex
  exact ⟨⟨oc, od, kV, doc, pm, an, .ref c, ct, osl, e, lk, hcd⟩, F.kp⟩
theorem FunC.ok {N ps : List Str} {k : Nat} {sp : Sp} (F : FunC K x qual st f fd c) (S : FnScope N ps (defScope st)) (len : ∀ vs H Q E, sp vs H Q E → vs.length = ps.length)
    (hbody : ∀ (A : Around) (outer : List Env) (s : Shared) (H : Hp) (vs : List V) (Q : VK) (E : XK), Room k (A.deeper (envOfC qual (defScope st) s.heap.objs.size f (.ref c))) → sp vs H Q E →
      ∃ t, PSs (cxOf CX0 P w K mg base N qual (defScope st) f (.ref c) A outer s H E).nox (defBody st) t ∧ t { nx := fun _ H' => Q .non H', rt := Q } (start N vs) H) : FnOk P w K mg base CX0 (k + 1) f fd ps sp := by
  obtain ⟨oc, od, kV, doc, pm, an, ct, osl, rfl, lk, hcd⟩ := F.ex
  refine fn_of lk hcd S len fun A outer s H vs Q E hr hsp => ?_
  obtain ⟨t, h, q⟩ := hbody A outer s H vs Q E hr hsp
  exact ⟨t, h.nox, q⟩
end
end CLo

/-! A list's tail deleted: del xs[lo:]. -/
namespace WX
open PySem PySem.Spec PyProof.Rows L2
section
variable {prog : Program} {w : World} {A : Around} {E : Value → Shared → Prop} {s : Shared}
/-- where xs[lo:] begins -/
def cutAt (n : Nat) (lo : Int) : Nat := (max 0 (min (if lo < 0 then lo + n else lo) (n : Int))).toNat
theorem tail_go (p : Value × Nat → Bool) (a : Nat) : ∀ (xs : List Value) (i : Nat), (∀ x k, k < i + xs.length → p (x, k) = decide (a ≤ k)) → ((xs.zipIdx i).filterMap fun x => if p x = true then none else some x.1) = xs.take (a - i)
  | [], i, _ => by simp
  | x :: xs, i, h => by
    have h1 := h x i (by rw [List.length_cons]; omega)
    have ih := tail_go p a xs (i + 1) fun y k hk => h y k (by rw [List.length_cons]; omega)
    rw [List.zipIdx_cons, List.filterMap_cons]
    simp only [h1]
    by_cases c : a ≤ i
    · simp only [decide_eq_true c, if_true]
      rw [ih, show a - (i + 1) = 0 by omega, show a - i = 0 by omega, List.take_zero, List.take_zero]
    · simp only [decide_eq_false c, Bool.false_eq_true, if_false]
      rw [ih, show a - i = (a - (i + 1)) + 1 by omega, List.take_succ_cons]
theorem del_tail {l sl : Addr} {items : List Value} {n : Nat} {vl vu : Value} {lo : Int} {Q : Unit → Shared → Prop} (e : s.heap.get? l = some { cls := .type "list", data := .seq items.toArray n }) (hs : s.heap.IsSliceOf sl vl vu .none) (pl : IsPart vl (some lo)) (pu : IsPart vu none)
    (hsz : items.length ≤ sizeLine) (h : ∀ f : Array Value → Array Value, f items.toArray = (items.take (cutAt items.length lo)).toArray → Q () { s with heap := s.heap.update l (Obj.mapSeq f) }) :
    wpAny (model prog w) A (delItem (.ref l) (.ref sl)) Q E s := by
  have hl : s.heap.IsList l items.toArray := PySem.IsL.isList e
  obtain ⟨os, hos, hcs, hds⟩ := id hs
  have hTs : s.TypeIs (.ref sl) "slice" := ⟨os, hos, hcs⟩
  have hstep : ¬ ((rawPart none == rawInt 0) = true) := Bool.false_ne_true
  refine wpAny_delItem_slot hl.typeIs (by decide) F.slot_list_delitem (wpAny_call_entry F.slot_list_delitem hl.typeIs F.entry_list_delitem ?_ (F.args_list_delitem_2 _ _))
  show wpAny _ _ (Builtin.List.listSubscript? (.ref sl) >>= _) _ _ s
  apply wpAny_bind
  unfold Builtin.List.listSubscript?
  apply wpAny_bind
  refine wpAny_specialOf hTs slice_no_index ?_
  simp only [Option.isNone_none, if_true]
  apply wpAny_pure
  show wpAny _ _ (typeOf (.ref sl) >>= _) _ _ s
  apply wpAny_bind
  refine wpAny_typeOf hTs ?_
  rw [if_neg (by decide)]
  rw [listSliceParts_eq]
  refine wpAny_bind (wpAny_bind (wpAny_field hos hds (x := .none) rfl (wpAny_bind (wpAny_listPart .none ?_))))
  rw [if_neg hstep]
  refine wpAny_bind (wpAny_field hos hds (x := vl) rfl (wpAny_bind (wpAny_listPart pl ?_)))
  refine wpAny_bind (wpAny_field hos hds (x := vu) rfl (wpAny_bind (wpAny_listPart pu (wpAny_pure ?_))))
  apply wpAny_bind (m := Builtin.List.listItems (.ref l))
  unfold Builtin.List.listItems
  refine wpAny_bind (wpAny_seqItems e rfl (wpAny_pure ?_))
  apply wpAny_bind
  refine wpAny_of_eq (sliceIndices_raw (some lo) none none items.toArray.size (by simp)) ?_
  apply wpAny_bind
  apply wpAny_rule
  have cutE : (sliceBounds (some lo) none none items.toArray.size).1 = (cutAt items.length lo : Int) := by
    show max 0 (min (if lo < 0 then lo + (items.toArray.size : Int) else lo) (items.toArray.size : Int)) = _
    unfold cutAt
    rw [List.size_toArray]
    omega
  have stopE : (sliceBounds (some lo) none none items.toArray.size).2.1 = (items.length : Int) := by
    show (items.toArray.size : Int) = _
    rw [List.size_toArray]
  have key : ∀ p : Value × Nat → Bool, (∀ x k, k < items.length → p (x, k) = decide (cutAt items.length lo ≤ k)) → ((items.toArray.toList.zipIdx.filterMap fun x => if p x = true then none else some x.1).toArray : Array Value) = (items.take (cutAt items.length lo)).toArray := fun p hp => by
    rw [show items.toArray.toList = items from rfl, tail_go p (cutAt items.length lo) items 0 (fun x k hk => hp x k (by omega)), Nat.sub_zero]
  have out : ∀ (x : Value) (k : Nat), k < items.length → (if (1 : Int) > 0 then decide ((sliceBounds (some lo) none none items.toArray.size).1 ≤ (k : Int)) && decide ((k : Int) < (sliceBounds (some lo) none none items.toArray.size).2.1) && (((k : Int) - (sliceBounds (some lo) none none items.toArray.size).1) % 1 == 0) else false) = decide (cutAt items.length lo ≤ k) := fun x k hk => by
    rw [if_pos (by decide), cutE, stopE, Int.emod_one]
    have h1 : decide ((k : Int) < (items.length : Int)) = true := decide_eq_true (by omega)
    rw [h1, Bool.and_true]
    by_cases c : cutAt items.length lo ≤ k
    · rw [decide_eq_true (show (cutAt items.length lo : Int) ≤ (k : Int) by omega), decide_eq_true c]
      rfl
    · rw [decide_eq_false (show ¬ (cutAt items.length lo : Int) ≤ (k : Int) by omega), decide_eq_false c]
      rfl
  apply wpAny_bind
  show wpAny _ _ (updateSeq l _) _ _ s
  refine wpAny_updateSeq (hz := by rw [List.size_toArray]; exact hsz) (_hz' := ?z) e rfl ?_
  case z =>
    refine Nat.le_trans (Nat.le_of_eq (congrArg Array.size (key _ fun x k hk => out x k hk))) ?_
    rw [List.size_toArray, List.length_take]
    omega
  apply wpAny_bind
  refine wpAny_letGo ?_
  exact wpAny_pure ⟨.none, rfl, h _ (key _ fun x k hk => out x k hk)⟩
end
end WX

namespace WX
open PySem PySem.Spec PyProof.Rows L2
section
variable {X : Cx}
/-- del xs[lo:] -/
def tDelT (to : TE) (tl : TO) : TS := fun D σ H => to σ H fun x H1 => tl σ H1 fun lo H2 => ∃ (l : Addr) (xs : List V) (i : Int), x = .ref l ∧ lo = some i ∧ H2 l = some (.lst xs) ∧ D.nx σ (upd H2 l (.lst (xs.take (cutAt xs.length i))))
theorem vals_take {xs : List V} {us : List Value} (r : Vals xs us) (n : Nat) : Vals (xs.take n) (us.take n) := by
  induction r generalizing n with
  | nil => simp only [List.take_nil]; exact .nil
  | cons h _ ih =>
    cases n with
    | zero => simp only [List.take_zero]; exact .nil
    | succ n =>
      simp only [List.take_succ_cons]
      exact .cons h (ih n)
theorem ps_delT {o : Expr} {lo : Option Expr} {to : TE} {tl : TO} {p2 tpos pos : Pos} (ho : PE X o to) (hl : PO X lo tl) : PS X (.Delete [.Subscript o (.Slice lo none none p2) tpos] pos) (tDelT to tl) := by
  refine ⟨fun pins s σ H D I h => ?_⟩
  refine wpAny_Delete (wpAny_deleteEach_cons (wpAny_delete_Subscript (thn (ho.run pins s σ H _ I h) fun u s1 ⟨x, H1, I1, rx, q1⟩ => ?_)))
  refine wpAny_Slice (thn (hl.run pins s1 σ H1 _ I1 q1) fun vl s2 ⟨l, H2, I2, pl, q2⟩ => ?_)
  rw [evalPart_none]
  refine wpAny_pure ?_
  refine wpAny_pure ?_
  obtain ⟨a, xs, i, rfl, rfl, hH, q⟩ := q2
  cases (show u = Value.ref a from rx)
  have I4 : Inv X pins σ H2 { s2 with heap := s2.heap.push { cls := .type "slice", data := .fields #[vl, .none, .none] } } := I2.kept (t' := s2.toks) fun b ob q => Heap.get?_push_of_some _ q
  obtain ⟨z, its, n, r, hlen, e⟩ := I4.lstM hH
  refine del_tail e (Heap.IsSliceOf.new ..) pl .none (by omega) fun f hf => ?_
  refine wpAny_deleteEach_nil ⟨σ, _, I4.lset (its' := its.take (cutAt its.length i)) hH e hf (by rw [← hlen]; exact vals_take r _) ?_, q⟩
  rw [List.length_take]
  omega
end
end WX

set_option maxHeartbeats 1000000
namespace L19
open PySem PySem.Spec PyProof.Rows L2 GR WX TX RZ
/-- one field filled anew from the parts left -/
def refill1 (W : List Str) (f : Str) (d : PyData) (qs : List PyData) : PyData := if f = "extra" then .tuple (qs.take (items d).length) else if f ∈ W then qs.headD d else d
/-- how many parts a field takes -/
def takes (W : List Str) (f : Str) (d : PyData) : Nat := (pick1 W f d).length
def refill (W : List Str) : List Str → List PyData → List PyData → List PyData
  | f :: fs, d :: ds, qs => refill1 W f d qs :: refill W fs ds (qs.drop (takes W f d))
  | _, _, _ => []
theorem refill_take (W : List Str) : ∀ {fs : List Str} {ds : List PyData} (i : Nat) {f : Str} {d : PyData} (qs : List PyData), fs[i]? = some f → ds[i]? = some d →
    refill W (fs.take (i + 1)) (ds.take (i + 1)) qs = refill W (fs.take i) (ds.take i) qs ++ [refill1 W f d (qs.drop (pick W (fs.take i) (ds.take i)).length)]
  | f0 :: fs, d0 :: ds, 0, f, d, qs, hf, hd => by
    cases hf
    cases hd
    simp only [List.take_succ_cons, List.take_zero, refill, pick, List.length_nil, List.drop_zero, List.nil_append]
  | f0 :: fs, d0 :: ds, i + 1, f, d, qs, hf, hd => by
    rw [List.getElem?_cons_succ] at hf hd
    have := refill_take W i (qs.drop (takes W f0 d0)) hf hd
    have e : pick W (f0 :: fs.take i) (d0 :: ds.take i) = pick1 W f0 d0 ++ pick W (fs.take i) (ds.take i) := rfl
    rw [List.take_succ_cons, List.take_succ_cons, refill, this, List.take_succ_cons, List.take_succ_cons, refill, e, List.length_append, ← List.drop_drop]
    rfl
  | [], _, _, _, _, _, hf, _ => by simp at hf
  | _ :: _, [], _, _, _, _, _, hd => by simp at hd
theorem dpAll_drop {K : PySem.W.Frag} {H : Hp} : ∀ {vs : List V} {ds : List PyData} (n : Nat), DpAll K H vs ds → DpAll K H (vs.drop n) (ds.drop n)
  | _, _, 0, h => by
    rw [List.drop_zero, List.drop_zero]
    exact h
  | _, _, n + 1, .cons _ h => by
    rw [List.drop_succ_cons, List.drop_succ_cons]
    exact dpAll_drop n h
  | _, _, n + 1, .nil => by
    rw [List.drop_nil, List.drop_nil]
    exact .nil
theorem dpAll_take {K : PySem.W.Frag} {H : Hp} : ∀ {vs : List V} {ds : List PyData} (n : Nat), DpAll K H vs ds → DpAll K H (vs.take n) (ds.take n)
  | _, _, 0, h => by
    rw [List.take_zero, List.take_zero]
    exact .nil
  | _, _, n + 1, .cons g h => by
    rw [List.take_succ_cons, List.take_succ_cons]
    exact .cons g (dpAll_take n h)
  | _, _, n + 1, .nil => by
    rw [List.take_nil, List.take_nil]
    exact .nil
theorem flatDs_drop {ds : List PyData} (i : Nat) (h : flatDs ds = true) : flatDs (ds.drop i) = true := by
  induction ds generalizing i with
  | nil =>
    rw [List.drop_nil]
    exact h
  | cons d ds ih =>
    cases i with
    | zero => exact h
    | succ i =>
      rw [flatDs, Bool.and_eq_true] at h
      rw [List.drop_succ_cons]
      exact ih i h.2
theorem flat_refill1 {W : List Str} {f : Str} {d : PyData} {qs : List PyData} (hd : flatD d = true) (hq : flatDs qs = true) : flatD (refill1 W f d qs) = true := by
  unfold refill1
  split
  · rw [flatD]
    exact flatDs_take _ hq
  · split
    · cases qs with
      | nil => exact hd
      | cons q qs =>
        rw [flatDs, Bool.and_eq_true] at hq
        exact hq.1
    · exact hd
theorem flat_refill {W : List Str} : ∀ {fs : List Str} {ds qs : List PyData}, flatDs ds = true → flatDs qs = true → flatDs (refill W fs ds qs) = true
  | f :: fs, d :: ds, qs, h, g => by
    rw [flatDs, Bool.and_eq_true] at h
    rw [refill, flatDs, flat_refill1 h.1 g, flat_refill h.2 (flatDs_drop _ g)]
    rfl
  | [], _, _, _, _ => by simp only [refill, flatDs]
  | _ :: _, [], _, _, _ => by simp only [refill, flatDs]
theorem cut_nat {xs : List V} {a b : Nat} (h1 : a ≤ b) (h2 : b ≤ xs.length) : cutV xs (some (a : Int)) (some (b : Int)) = (xs.drop a).take (b - a) := by
  unfold cutV
  rw [HT.sIx_nat, HT.sIx_nat, show min a xs.length = a by omega, show min b xs.length = b by omega]
section
variable {P : Program} {w : World} {K : PySem.W.Frag} {mg : Str → Option Value} {base : Heap}
abbrev s_with_contained_of : Stmt := topS 6
theorem sc_with_contained_of : FnScope ["expression", "wanted", "parts", "found", "used", "kind", "part"] ["expression", "wanted", "parts"] (defScope s_with_contained_of) := ⟨rfl, rfl, rfl, by decide +kernel, rfl, by decide +kernel, by decide +kernel⟩
def sp_with (K : PySem.W.Frag) : Sp := fun vs H Q _ => ∃ (a wA pA : Addr) (wd : Str) (fs W : List Str) (rest ps : List PyData) (ups : List V), vs = [.ref a, .ref wA, .ref pA] ∧ SqT K H wA (W.map V.str) ∧ Dp K H (.ref a) (.tuple (.str wd :: rest)) ∧ (wd, fs) ∈ table ∧ Fits fs rest ∧ flatDs rest = true ∧ SqL K H pA ups ∧ DpAll K H ups ps ∧ flatDs ps = true ∧
  ps.length = (pick W fs rest).length ∧ ps.length ≤ 1000 ∧ ∀ H' p, Same H H' → Dp K H' (.ref p) (.tuple (.str wd :: refill W fs rest ps)) → Q (.ref p) H'
theorem ok_with {f fA : Addr} {fd : FuncData} {k : Nat} (F : Fun K "with_contained_of" "with_contained_of" s_with_contained_of f fd) (mFIELDS : mg "FIELDS" = some (.ref fA)) (T : Flds K w fA) (mzip : mg "zip" = none) (mtuple : mg "tuple" = none) (mlen : mg "len" = none) :
    FnOk P w K mg base CX0 (k + 1) f fd ["expression", "wanted", "parts"] (sp_with K) := by
  have nd := sc_with_contained_of.nd
  refine F.ok sc_with_contained_of (fun vs H Q E h => ?_) (fun cdv A outer s H vs Q E hr h => ?_)
  · obtain ⟨a, wA, pA, wd, fs, W, rest, ps, ups, rfl, _⟩ := h
    rfl
  obtain ⟨a, wA, pA, wd, fs, W, rest, ps, ups, rfl, hWt, hd, ht, hfit, hflat, hP, hPA, hPF, hlen, hl1000, q⟩ := h
  refine ⟨_, (pss_cons (ps_set (i := 3) nd rfl (.inl rfl) (pe_lst (pa_cons (pe_ix ix_tup (pv 0) pe_int (fun _ _ => rfl)) pa_nil)))
      (pss_cons (ps_set (i := 4) nd rfl (.inl rfl) pe_int)
      (pss_cons (ps_for PassesOwn.never rfl (pi_zipA (by rfl) mzip (pa_cons (pe_ix ix_kdict (pe_glob rfl mFIELDS (v := .ref fA) rfl) (pe_ix ix_tup (pv 0) pe_int (fun _ _ => rfl)) (fun _ _ => rfl)) (pa_cons (pe_slice L2.sl_tup (pv 0) (po_some pe_int) po_none) pa_nil))) (pg_tup rfl (pgs_cons (pg_name (i := 5) nd rfl (Or.inl rfl)) (pgs_cons (pg_name (i := 6) nd rfl (Or.inl rfl)) pgs_nil)))
      (pss_one (ps_if (pt_cmpR op_eq (pv 5) pe_str (nomark _))
        (pss_cons (ps_expr (pe_bm PySem.F.plainAttrs_list PySem.F.slot_list_append PySem.F.type_list_append mt_append (pv 3) (pa_cons (pe_callTy call_tuple_of (by rfl) mtuple boot_tuple (pa_cons (pe_slice sl_list (pv 2) (po_some (pv 4)) (po_some (pe_op op_add (pv 4) (pe_callB call_len_seq (by rfl) mlen PySem.boot_len (pa_cons (pv 6) pa_nil))))) pa_nil)) pa_nil)))
          (pss_one (ps_aug (i := 4) nd rfl (.inl rfl) (pe_callB call_len_seq (by rfl) mlen PySem.boot_len (pa_cons (pv 6) pa_nil)) ip_add)))
        (pss_one (ps_if (pt_cmpR op_in_seq (pv 5) (pv 1) (by rfl))
          (pss_cons (ps_expr (pe_bm PySem.F.plainAttrs_list PySem.F.slot_list_append PySem.F.type_list_append mt_append (pv 3) (pa_cons (pe_ix ix_list (pv 2) (pv 4) (fun _ _ => rfl)) pa_nil)))
            (pss_one (ps_aug (i := 4) nd rfl (.inl rfl) pe_int ip_add)))
          (pss_one (ps_expr (pe_bm PySem.F.plainAttrs_list PySem.F.slot_list_append PySem.F.type_list_append mt_append (pv 3) (pa_cons (pv 6) pa_nil)))))))))
      (pss_one (ps_ret (pe_callTy call_tuple_of (by rfl) mtuple boot_tuple (pa_cons (pv 3) pa_nil))))))), ?_⟩
  cases hd with
  | tup hS hA =>
  cases hA with
  | cons hw hA =>
  cases hw
  rename_i vs0
  obtain ⟨fp, hK, hF⟩ := T wd fs ht
  have hl0 := dpAll_len hA
  have lP := dpAll_len hPA
  refine ⟨.ref a, rfl, a, _, 0, .str wd, rfl, rfl, hS, at0, small_le (show 1 ≤ 1000 by decide), fun fo nfo => ?_⟩
  have sf := same_upd (o := .lst [.str wd]) nfo
  refine ⟨.ref a, rfl, a, _, 0, .str wd, rfl, rfl, (KeepT.of sf).seqt hS, at0, fA, wd, .ref fp, rfl, rfl, hK, .ref a, rfl, 1, rfl, a, _, rfl, (KeepT.of sf).seqt hS, ?_, fun c nc => ?_⟩
  · rw [List.length_cons]
    rintro ⟨e, _⟩
    have : HT.sIx (vs0.length + 1) 0 (some 1) = min 1 (vs0.length + 1) := HT.sIx_nat _ _ 1
    rw [this] at e
    omega
  have hcut : cutV (.str wd :: vs0) (some 1) none = vs0 := by
    unfold cutV
    rw [HT.sIx_none, show HT.sIx (V.str wd :: vs0).length 0 (some 1) = min 1 (V.str wd :: vs0).length from HT.sIx_nat _ _ 1, List.length_cons, show min 1 (vs0.length + 1) = 1 by omega, List.drop_succ_cons, List.drop_zero, show vs0.length + 1 - 1 = vs0.length by omega, List.take_length]
  rw [hcut]
  have sc := same_upd (o := .tup vs0) nc
  have hc1 : upd (upd H fo (.lst [.str wd])) c (.tup vs0) c = some (.tup vs0) := upd_same
  have hf1 := sc _ _ (show upd H fo (.lst [.str wd]) fo = _ from upd_same)
  have s2 := sf.trans sc
  revert hc1 hf1 s2
  generalize upd (upd H fo (.lst [.str wd])) c (.tup vs0) = H1
  intro hc1 hf1 s2
  have hl : (fs.map V.str).length = vs0.length := by rw [List.length_map, hfit.len, hl0]
  refine ⟨fp, c, fs.map V.str, vs0, rfl, .inr ⟨hF H1, .inl (.inl hc1), ?_⟩⟩
  refine for_zipT hl (fun i σ H' => ∃ (y4 y5 : Option V) (us : List V), σ = [some (.ref a), some (.ref wA), some (.ref pA), some (.ref fo), some (.int ((pick W (fs.take i) (rest.take i)).length : Int)), y4, y5] ∧ H' fo = some (.lst us) ∧ DpAll K H' us (.str wd :: refill W (fs.take i) (rest.take i) ps) ∧ us.length = i + 1 ∧ (∀ b o, b ≠ fo → H1 b = some o → H' b = some o)) ?_ ?_ ?_ ?_
  · refine ⟨none, none, [.str wd], rfl, hf1, ?_, rfl, fun b o _ e => e⟩
    simp only [List.take_zero, refill]
    exact .cons (.str wd) .nil
  · rintro i σ H' ⟨y4, y5, us, rfl, hu, hdp, hi, kk⟩
    exact ⟨hF H', .inl (.inl (kk _ _ (ne_of hc1 hf1 (fun z => by cases z)) hc1))⟩
  · rintro i x y t σ H' hx hy ⟨y4, y5, us, rfl, hu, hdp, hi, kk⟩ nt
    rw [List.getElem?_map] at hx
    obtain ⟨fi, hfi, rfl⟩ : ∃ fi, fs[i]? = some fi ∧ x = .str fi := by
      cases e : fs[i]? with
      | none =>
        rw [e] at hx
        cases hx
      | some fi =>
        rw [e] at hx
        cases hx
        exact ⟨fi, rfl, rfl⟩
    obtain ⟨di, hdi, hyd⟩ := dpAll_at hA hy
    have kH : Same H H' := fun b o e => kk b o (ne_of_none e nfo) (s2 _ _ e)
    have st := same_upd (o := .tup [.str fi, y]) nt
    have sH := kH.trans st
    have fdi := flatDs_at hflat hdi
    have hyd2 := dp_keep (KeepT.of sH) _ _ fdi hyd
    have hu2 := st _ _ hu
    have hrt := refill_take W i ps hfi hdi
    have hpt : pick W (fs.take (i + 1)) (rest.take (i + 1)) = pick W (fs.take i) (rest.take i) ++ pick1 W fi di := pick_take W i hfi hdi
    have hpl := pick_len W (fs := fs) (ds := rest) (i + 1)
    rw [hpt, List.length_append, ← hlen] at hpl
    have hil : i < 1000 ∨ True := .inr trivial
    generalize hused : (pick W (fs.take i) (rest.take i)).length = used at hrt hpt hpl ⊢
    have fus : flatDs (.str wd :: refill W (fs.take i) (rest.take i) ps) = true := by
      rw [flatDs, flat_refill (flatDs_take i hflat) hPF]
      rfl
    have fr1 : flatD (refill1 W fi di (ps.drop used)) = true := flat_refill1 fdi (flatDs_drop _ hPF)
    have hifs : i < fs.length := (List.getElem?_eq_some_iff.mp hfi).1
    have hfs6 : fs.length ≤ 6 := (show ∀ p, p ∈ table → p.2.length ≤ 6 by decide) (wd, fs) ht
    have turn : ∀ (Hx : Hp) (vn : V), Same H' Hx → Dp K Hx vn (refill1 W fi di (ps.drop used)) → ∃ (z4 z5 : Option V) (us' : List V), [some (.ref a), some (.ref wA), some (.ref pA), some (.ref fo), some (.int ((used + (pick1 W fi di).length : Nat) : Int)), some (.str fi), some y] = [some (.ref a), some (.ref wA), some (.ref pA), some (.ref fo), some (.int ((pick W (fs.take (i + 1)) (rest.take (i + 1))).length : Int)), z4, z5] ∧
        upd Hx fo (.lst (us ++ [vn])) fo = some (.lst us') ∧ DpAll K (upd Hx fo (.lst (us ++ [vn]))) us' (.str wd :: refill W (fs.take (i + 1)) (rest.take (i + 1)) ps) ∧ us'.length = i + 1 + 1 ∧ (∀ b o, b ≠ fo → H1 b = some o → upd Hx fo (.lst (us ++ [vn])) b = some o) := by
      intro Hx vn sx hv
      have k2 : KeepT Hx (upd Hx fo (.lst (us ++ [vn]))) := KeepT.lst (sx _ _ hu)
      refine ⟨some (.str fi), some y, us ++ [vn], ?_, upd_same, ?_, by rw [List.length_append, hi]; rfl, fun b o hb e => ?_⟩
      · rw [hpt, List.length_append, hused]
      · rw [hrt, ← List.cons_append]
        exact dpAll_append (dp_keepAll ((KeepT.of sx).trans k2) _ _ fus hdp) (.cons (dp_keep k2 _ _ fr1 hv) .nil)
      · rw [upd_ne hb]
        exact sx _ _ (kk b o hb e)
    refine ⟨t, [.str fi, y], rfl, .inl (.inl upd_same), rfl, _, _, rfl, _, _, rfl, rfl, ?_⟩
    refine ⟨.str fi, rfl, rfl, _, rfl, ite2 (fun e1 => ?_) (fun e1 => ?_)⟩
    · have e1 : fi = "extra" := by simpa using e1
      subst e1
      obtain ⟨xs, rfl⟩ := hfit.at' hfi hdi
      have hp1 : pick1 W "extra" (.tuple xs) = xs := by
        unfold pick1
        rw [if_pos rfl, items]
      have hr1 : refill1 W "extra" (.tuple xs) (ps.drop used) = .tuple ((ps.drop used).take xs.length) := by
        unfold refill1
        rw [if_pos rfl, items]
      rw [hp1] at hpl turn
      rw [hr1] at turn
      cases hyd2 with
      | tup hys hyA =>
      rename_i ya zs'
      have hz := dpAll_len hyA
      rw [← hz] at turn hpl
      have hcut2 : cutV ups (some (used : Int)) (some ((used : Int) + (zs'.length : Int))) = (ups.drop used).take zs'.length := by
        have := cut_nat (xs := ups) (a := used) (b := used + zs'.length) (by omega) (by omega)
        rw [show used + zs'.length - used = zs'.length by omega] at this
        exact this
      refine ⟨.ref fo, rfl, .inl ⟨rfl, _, .inl (.inl hu2)⟩, .ref pA, rfl, .int (used : Int), rfl, (used : Int), rfl, .int (used : Int), rfl, .ref ya, rfl, ya, zs', rfl, .inr hys, (used : Int), (zs'.length : Int), rfl, rfl, (used : Int) + (zs'.length : Int), rfl, pA, ups, rfl, sH.seq hP, fun p1 np1 => ?_⟩
      rw [hcut2]
      have sp1 := same_upd (o := .lst ((ups.drop used).take zs'.length)) np1
      refine ⟨p1, _, rfl, .inl ⟨.inl (.inl upd_same), fun p2 np2 => ?_⟩⟩
      have sp2 := same_upd (o := .tup ((ups.drop used).take zs'.length)) np2
      have s3 := st.trans (sp1.trans sp2)
      refine ⟨fo, _, _, rfl, rfl, s3 _ _ hu, small1000 (by omega), .int (used : Int), rfl, .ref ya, rfl, ya, zs', rfl, .inr ?_, (used : Int), (zs'.length : Int), rfl, rfl, ?_⟩
      · exact (((KeepT.of (sp1.trans sp2)).trans (KeepT.lst (s3 _ _ hu))).seqt hys)
      · have hdrop : DpAll K (upd (upd (upd H' t (.tup [.str "extra", .ref ya])) p1 (.lst ((ups.drop used).take zs'.length))) p2 (.tup ((ups.drop used).take zs'.length))) ((ups.drop used).take zs'.length) ((ps.drop used).take zs'.length) :=
          dp_keepAll ((KeepT.of sH).trans (KeepT.of (sp1.trans sp2))) _ _ (flatDs_take _ (flatDs_drop _ hPF)) (dpAll_take _ (dpAll_drop _ hPA))
        exact turn _ (.ref p2) s3 (.tup (.inl (.inl upd_same)) hdrop)
    · have e1 : fi ≠ "extra" := fun z => e1 (by simpa using z)
      refine ⟨.str fi, rfl, .ref wA, rfl, wA, W.map V.str, rfl, .inr ((KeepT.of sH).seqt hWt), rfl, flat_strs W, _, rfl, ?_⟩
      rw [wanted_in]
      refine ite2 (fun e2 => ?_) (fun e2 => ?_)
      · have e2 : fi ∈ W := by simpa using e2
        have hp1 : pick1 W fi di = [di] := by
          unfold pick1
          rw [if_neg e1, if_pos e2]
        rw [hp1] at hpl turn
        have hlt : used < ups.length := by
          rw [lP]
          simp only [List.length_singleton] at hpl
          omega
        have hget : ups[used]? = some ups[used] := List.getElem?_eq_getElem hlt
        obtain ⟨dq, hdq, hvq⟩ := dpAll_at hPA hget
        have hr1 : refill1 W fi di (ps.drop used) = dq := by
          unfold refill1
          rw [if_neg e1, if_pos e2]
          have : ps.drop used = dq :: ps.drop (used + 1) := by
            obtain ⟨h1, h2⟩ := List.getElem?_eq_some_iff.mp hdq
            rw [List.drop_eq_getElem_cons h1, h2]
          rw [this]
          rfl
        rw [hr1] at turn
        refine ⟨.ref fo, rfl, .inl ⟨rfl, _, .inl (.inl hu2)⟩, .ref pA, rfl, .int (used : Int), rfl, pA, ups, (used : Int), ups[used], rfl, rfl, sH.seq hP, atI_nat hget, fo, _, _, rfl, rfl, hu2, small1000 (by omega), .int (used : Int), rfl, (used : Int), 1, rfl, rfl, ?_⟩
        exact turn _ ups[used] st (dp_keep (KeepT.of sH) _ _ (flatDs_at hPF hdq) hvq)
      · have e2 : fi ∉ W := fun z => e2 (by simpa using z)
        have hp1 : pick1 W fi di = [] := by
          unfold pick1
          rw [if_neg e1, if_neg e2]
        have hr1 : refill1 W fi di (ps.drop used) = di := by
          unfold refill1
          rw [if_neg e1, if_neg e2]
        rw [hp1, hr1] at turn
        refine ⟨.ref fo, rfl, .inl ⟨rfl, _, .inl (.inl hu2)⟩, y, rfl, fo, _, _, rfl, rfl, hu2, small1000 (by omega), ?_⟩
        exact turn _ y st hyd2
  · rintro σ H' ⟨y4, y5, us, rfl, hu, hdp, hi, kk⟩
    have e1 : fs.take (fs.map V.str).length = fs := by rw [List.length_map, List.take_length]
    have e2 : rest.take (fs.map V.str).length = rest := by rw [List.length_map, hfit.len, List.take_length]
    rw [e1, e2] at hdp
    refine ⟨.ref fo, rfl, fo, us, rfl, .inl ⟨.inl (.inl hu), fun t nt => ?_⟩⟩
    have st := same_upd (o := .tup us) nt
    have kH : Same H H' := fun b o e => kk b o (ne_of_none e nfo) (s2 _ _ e)
    refine q _ _ (kH.trans st) (.tup (.inl (.inl upd_same)) (dp_keepAll (KeepT.of st) _ _ ?_ hdp))
    rw [flatDs, flat_refill hflat hPF]
    rfl
end
end L19

set_option maxHeartbeats 1000000
namespace L19
open PySem PySem.Spec PyProof.Rows L2 GR WX TX RZ
/-- what is contained, of the kinds W -/
def kidsW (W : List Str) : PyData → List PyData
  | .tuple (.str w :: rest) => pick W (fieldsOf w) rest
  | _ => []
theorem kidsW_of {W : List Str} {w : Str} {fs : List Str} {rest : List PyData} (ht : (w, fs) ∈ table) : kidsW W (.tuple (.str w :: rest)) = pick W fs rest := by
  show pick W (fieldsOf w) rest = _
  rw [show fieldsOf w = fs from fieldsOf_table (w, fs) ht]
theorem pick_subW {W : List Str} (hW : ∀ f, f ∈ W → f ∈ W2) : ∀ (fs : List Str) (ds : List PyData), (pick W fs ds).Sublist (pick W2 fs ds)
  | f :: fs, d :: ds => by
    simp only [pick]
    refine List.Sublist.append ?_ (pick_subW hW fs ds)
    by_cases h1 : f = "extra"
    · rw [if_pos h1, if_pos h1]
      exact List.Sublist.refl _
    · rw [if_neg h1, if_neg h1]
      by_cases h2 : f ∈ W
      · rw [if_pos h2, if_pos (hW f h2)]
        exact List.Sublist.refl _
      · rw [if_neg h2]
        exact List.nil_sublist _
  | [], _ => by simp only [pick]; exact List.Sublist.refl _
  | _ :: _, [] => by simp only [pick]; exact List.Sublist.refl _
theorem kidsW_sub {W : List Str} (hW : ∀ f, f ∈ W → f ∈ W2) (x : PyData) : (kidsW W x).Sublist (kids x) := by
  unfold kidsW kids
  split
  · exact pick_subW hW _ _
  · exact List.nil_sublist _
theorem Ex.kidsW {W : List Str} (hW : ∀ f, f ∈ W → f ∈ W2) {zs : List Str} {n : Nat} {x : PyData} (h : Ex zs (n + 1) x) : ∀ y, y ∈ kidsW W x → Ex zs n y := fun y hy => h.kids.1 y ((kidsW_sub hW x).subset hy)
def refillX (W : List Str) : PyData → List PyData → PyData
  | .tuple (.str w :: rest), qs => .tuple (.str w :: refill W (fieldsOf w) rest qs)
  | x, _ => x
/-- folding -/
def foldE (W : List Str) (mk : PyData → List PyData → PyData) : Nat → PyData → PyData
  | 0, x => x
  | n + 1, x => mk x ((kidsW W x).map (foldE W mk n))
section
variable {W : List Str} {mk : PyData → List PyData → PyData} (hW : ∀ f, f ∈ W → f ∈ W2)
include hW in
theorem foldE_stable {zs : List Str} : ∀ {m k : Nat} {x : PyData}, Ex zs m x → m ≤ k → foldE W mk k x = foldE W mk m x
  | 0, _, _, h, _ => by cases h
  | m + 1, 0, _, _, hk => by omega
  | m + 1, k + 1, x, h, hk => by
    have e : (kidsW W x).map (foldE W mk k) = (kidsW W x).map (foldE W mk m) := List.map_congr_left fun y hy => foldE_stable (h.kidsW hW y hy) (by omega : m ≤ k)
    simp only [foldE, e]
end
abbrev Task := PyData × Bool
section
variable (W : List Str) (mk : PyData → List PyData → PyData)
/-- the machine: tasks, the top first; what is done -/
def run (n : Nat) : List Task → List PyData → List PyData
  | [], ds => ds
  | (y, false) :: ts, ds => run n ts (ds ++ [foldE W mk n y])
  | (y, true) :: ts, ds => run n ts (ds.take (ds.length - (kidsW W y).length) ++ [mk y (ds.drop (ds.length - (kidsW W y).length))])
theorem run_false (n : Nat) : ∀ (l : List PyData) (ts : List Task) (ds : List PyData), run W mk n (l.map (fun y => (y, false)) ++ ts) ds = run W mk n ts (ds ++ l.map (foldE W mk n))
  | [], ts, ds => by simp
  | y :: l, ts, ds => by
    rw [List.map_cons, List.cons_append, run, run_false n l ts, List.map_cons, List.append_assoc]
    rfl
/-- the tasks can be done with so many done -/
def Can : List Task → Nat → Prop
  | [], _ => True
  | (_, false) :: ts, k => Can ts (k + 1)
  | (y, true) :: ts, k => (kidsW W y).length ≤ k ∧ Can ts (k - (kidsW W y).length + 1)
theorem can_false : ∀ (l : List PyData) (ts : List Task) (k : Nat), Can W (l.map (fun y => (y, false)) ++ ts) k ↔ Can W ts (k + l.length)
  | [], ts, k => by simp
  | y :: l, ts, k => by
    rw [List.map_cons, List.cons_append, Can, can_false l ts, List.length_cons]
    rw [show k + 1 + l.length = k + (l.length + 1) by omega]
end
def wgt (n : Nat) : Task → Nat
  | (y, false) => 2 * (flatP n y).length
  | (_, true) => 1
def wgtL (n : Nat) (ts : List Task) : Nat := (ts.map (wgt n)).sum
theorem wgtL_append (n : Nat) (a b : List Task) : wgtL n (a ++ b) = wgtL n a + wgtL n b := by
  unfold wgtL
  rw [List.map_append, List.sum_append]
theorem wgtL_false (n : Nat) : ∀ l : List PyData, wgtL n (l.map fun y => (y, false)) = 2 * szL n l
  | [] => rfl
  | y :: l => by
    have ih := wgtL_false n l
    rw [szL_cons]
    unfold wgtL at ih ⊢
    rw [List.map_cons, List.map_cons, List.sum_cons, ih, wgt]
    omega
theorem szL_perm {n : Nat} {a b : List PyData} (h : a.Perm b) : szL n a = szL n b := by
  unfold szL
  exact (h.map _).sum_nat
/-- a task as data -/
def taskD (t : Task) : PyData := .tuple [t.1, .bool t.2]
theorem flat_task {zs : List Str} {n : Nat} {t : Task} (h : Ex zs n t.1) : flatD (taskD t) = true := by
  unfold taskD
  simp only [flatD, flatDs, h.flat, Bool.and_self]
/-- one expression whose kids are done is done -/
theorem run_open {W : List Str} {mk : PyData → List PyData → PyData} (hW : ∀ f, f ∈ W → f ∈ W2) {zs : List Str} {n : Nat} {y : PyData} (h : Ex zs n y) (ts : List Task) (ds : List PyData) :
    run W mk n ((kidsW W y).map (fun z => (z, false)) ++ (y, true) :: ts) ds = run W mk n ((y, false) :: ts) ds := by
  cases n with
  | zero => cases h
  | succ n =>
  rw [run_false, run, run]
  have e : ((kidsW W y).map (foldE W mk (n + 1))).length = (kidsW W y).length := List.length_map ..
  rw [List.length_append, e, show ds.length + (kidsW W y).length - (kidsW W y).length = ds.length by omega, List.take_left, List.drop_left]
  have e2 : foldE W mk (n + 1) y = mk y ((kidsW W y).map (foldE W mk (n + 1))) := by
    have e3 : (kidsW W y).map (foldE W mk (n + 1)) = (kidsW W y).map (foldE W mk n) := List.map_congr_left fun z hz => foldE_stable hW (h.kidsW hW z hz) (Nat.le_succ n)
    rw [e3, foldE]
  rw [e2]
/-- what is made of flat things is flat -/
theorem flat_fold {W : List Str} {mk : PyData → List PyData → PyData} (hW : ∀ f, f ∈ W → f ∈ W2) {zs : List Str} (hmk : ∀ n y qs, Ex zs n y → flatDs qs = true → flatD (mk y qs) = true) : ∀ {n : Nat} {x : PyData}, Ex zs n x → flatD (foldE W mk n x) = true
  | 0, _, h => by cases h
  | n + 1, x, h => by
    rw [foldE]
    exact hmk (n + 1) x _ h (flatDs_of fun d hd => by
      obtain ⟨y, hy, rfl⟩ := List.mem_map.mp hd
      exact flat_fold hW hmk (h.kidsW hW y hy))
theorem dpAll_rev {K : PySem.W.Frag} {H : Hp} : ∀ {vs : List V} {ds : List PyData}, DpAll K H vs ds → DpAll K H vs.reverse ds.reverse
  | _, _, .nil => .nil
  | _, _, .cons h g => by
    rw [List.reverse_cons, List.reverse_cons]
    exact dpAll_append (dpAll_rev g) (.cons h .nil)
theorem tasks_le {zs : List Str} {n : Nat} : ∀ {ts : List Task}, (∀ t, t ∈ ts → Ex zs n t.1) → ts.length ≤ wgtL n ts
  | [], _ => Nat.zero_le _
  | (y, b) :: ts, h => by
    have ih := tasks_le fun t ht => h t (List.mem_cons_of_mem _ ht)
    have h1 := szL_kids (h _ List.mem_cons_self)
    have h2 : 1 ≤ wgt n (y, b) := by
      cases b
      · show 1 ≤ 2 * (flatP n y).length
        have : (flatP n y).length = szL n (kids y) + 1 := h1.symm
        omega
      · exact Nat.le_refl 1
    unfold wgtL at ih ⊢
    rw [List.map_cons, List.sum_cons, List.length_cons]
    omega
theorem flat_refillX {W : List Str} {zs : List Str} {n : Nat} {y : PyData} {qs : List PyData} (h : Ex zs n y) (hq : flatDs qs = true) : flatD (refillX W y qs) = true := by
  obtain ⟨wd, fs, rest, rfl, _, _⟩ := h.form
  have hf := h.flat
  rw [flatD, flatDs, Bool.and_eq_true] at hf
  show flatD (.tuple (.str wd :: refill W (fieldsOf wd) rest _)) = true
  rw [flatD, flatDs, flat_refill hf.2 hq]
  rfl
end L19

namespace L19
open PySem PySem.Spec PyProof.Rows L2 GR WX TX RZ NdefX CLo
/-- what the function that is handed in promises -/
def sp_made (K : PySem.W.Frag) (W : List Str) (mk : PyData → List PyData → PyData) (Cap : List (Option V) → Hp → Prop) (ws : List (Option V)) : Sp := fun vs H Q _ => Cap ws H ∧ ∃ (v : V) (p : Addr) (y : PyData) (zs : List Str) (n : Nat) (qs : List PyData) (ups : List V), vs = [v, .ref p] ∧ Dp K H v y ∧ Ex zs n y ∧ SqL K H p ups ∧ DpAll K H ups qs ∧ flatDs qs = true ∧
  qs.length = (kidsW W y).length ∧ ∀ H' v', Same H H' → Dp K H' v' (mk y qs) → Q v' H'
/-- what a function handed in must be -/
structure MkOk (W : List Str) (mk : PyData → List PyData → PyData) (Cap : List (Option V) → Hp → Prop) : Prop where
  sub : ∀ f, f ∈ W → f ∈ W2
  flat : ∀ zs n y qs, Ex zs n y → flatDs qs = true → flatD (mk y qs) = true
  cap : ∀ ws H H', Same H H' → Cap ws H → Cap ws H'
def sp_folded (K : PySem.W.Frag) (W : List Str) (mk : PyData → List PyData → PyData) (Cap : List (Option V) → Hp → Prop) (i : CI) : Sp := fun vs H Q _ => ∃ (v : V) (wA : Addr) (x : PyData) (zs : List Str) (n : Nat), vs = [v, .ref wA, .ref i.2.1] ∧ Dp K H v x ∧ Ex zs n x ∧ SqT K H wA (W.map V.str) ∧ Cap i.2.2 H ∧ (flatP n x).length ≤ 2100000 ∧ ∀ H' v', Same H H' → Dp K H' v' (foldE W mk n x) → Q v' H'
abbrev s_folded : Stmt := topS 7
abbrev N_folded : List Str := ["expression", "wanted", "made", "done", "todo", "part", "is_ready", "inner", "start", "parts", "thing"]
theorem sc_folded : FnScope N_folded ["expression", "wanted", "made"] (defScope s_folded) := ⟨rfl, rfl, rfl, by decide +kernel, rfl, by decide +kernel, by decide +kernel⟩
theorem and_els {c b : Bool} {σ : L2.St} {A B : Prop} (h : (c && !b) = false) (hs : σ[6]? = some (some (V.bl b))) (x : B) : if c = true then (∃ v, σ[6]? = some (some v) ∧ ∃ d, v = V.bl d ∧ (if (!d) = true then A else B)) else (if false = true then A else B) := by
  cases c with
  | false => exact x
  | true =>
    refine ⟨_, hs, b, rfl, ?_⟩
    cases b with
    | true => exact x
    | false => cases h
theorem vis_made : Vis (defScope s_folded) "made" := Or.inl rfl
section
variable {P : Program} {w : World} {K : PySem.W.Frag} {mg : Str → Option Value} {base : Heap} {W : List Str} {mk : PyData → List PyData → PyData} {Cap : List (Option V) → Hp → Prop}
/-- before each turn -/
def KInv (K : PySem.W.Frag) (W : List Str) (mk : PyData → List PyData → PyData) (zs : List Str) (n : Nat) (x : PyData) (v : V) (wA g dn td : Addr) (H0 : Hp) (m : Nat) (σ : L2.St) (H : Hp) : Prop :=
  ∃ (z5 z6 z7 z8 z9 z10 : Option V) (us vs : List V) (ts : List Task) (ds : List PyData), σ = [some v, some (.ref wA), some (.ref g), some (.ref dn), some (.ref td), z5, z6, z7, z8, z9, z10] ∧ H dn = some (.lst vs) ∧ H td = some (.lst us) ∧ DpAll K H vs ds ∧ DpAll K H us (ts.map taskD) ∧ (∀ t, t ∈ ts → Ex zs n t.1) ∧ (∀ d, d ∈ ds → flatD d = true) ∧
    Can W ts.reverse ds.length ∧ run W mk n ts.reverse ds = [foldE W mk n x] ∧ m = wgtL n ts ∧ ds.length + m ≤ 4200000 ∧ (∀ b ob, b ≠ dn → b ≠ td → H0 b = some ob → H b = some ob)
theorem ok_folded {Γ : NF → Prop} {fr : List Str} {f fc : Addr} {fd fdc : FuncData} {j k : Nat} (F : Fun K "folded" "folded" s_folded f fd) (C : MkOk W mk Cap) (M : ∀ G, Γ G → ∀ g, NOk P w K mg base CX0 j g G ["part", "parts"] fr (sp_made K W mk Cap)) (hj : j ≤ k)
    (Gc : FnOk P w K mg base CX0 k fc fdc ["expression", "wanted"] (sp_contained_of K)) (gc : mg "contained_of" = some (.ref fc)) (Kc : PySem.W.keepIn K (.ref fc) = true) (bc : Binds K fdc ["expression", "wanted"] []) (mlen : mg "len" = none) :
    FnP P w K mg base (k + 1) f fd ["expression", "wanted", "made"] (preC Γ fr) (sp_folded K W mk Cap) := by
  have nd := sc_folded.nd
  refine ok_p F sc_folded (fun i vs H Q E h => ?_) (fun i cdv A outer s H vs Q E hpre _ hr h => ?_)
  · obtain ⟨v, wA, x, zs, n, rfl, _⟩ := h
    rfl
  obtain ⟨G, g, ws⟩ := i
  obtain ⟨hΓ, hgF, hgc, hgC, hgO⟩ := hpre
  obtain ⟨v, wA, x, zs, n, rfl, hd, he, hWt, hCap, hb, q⟩ := h
  refine ⟨_, (pss_cons (ps_set (i := 3) nd rfl (.inl rfl) (pe_lst pa_nil))
      (pss_cons (ps_set (i := 4) nd rfl (.inl rfl) (pe_lst (pa_cons (pe_tup (pa_cons (pv 0) (pa_cons pe_bl pa_nil))) pa_nil)))
      (pss_cons (ps_while PassesOwn.never (pt_truth (pv 4) (fun _ => rfl))
      (pss_cons (ps_asg (pe_bm0 PySem.F.plainAttrs_list PySem.F.slot_list_pop PySem.F.type_list_pop mt_pop (pv 4)) (pg_tup rfl (pgs_cons (pg_name (i := 5) nd rfl (Or.inl rfl)) (pgs_cons (pg_name (i := 6) nd rfl (Or.inl rfl)) pgs_nil))))
        (pss_cons (ps_set (i := 7) nd rfl (.inl rfl) (pe_call Gc hr (by rfl) gc Kc bc .nil pass0 (pa_cons (pv 5) (pa_cons (pv 1) pa_nil))))
        (pss_one (ps_if (PW.pt (pw_and (pt_truth (pv 7) (fun _ => rfl)) (pw_and1 (pt_not (pt_val (pv 6))))))
        (pss_cons (ps_expr (pe_bm PySem.F.plainAttrs_list PySem.F.slot_list_append PySem.F.type_list_append mt_append (pv 4) (pa_cons (pe_tup (pa_cons (pv 5) (pa_cons pe_bl pa_nil))) pa_nil)))
          (pss_one (ps_expr (pe_bm PySem.F.plainAttrs_list PySem.F.slot_list_extend PySem.F.type_list_extend mt_extend (pv 4) (pa_cons (pe_lc (own := [("thing", 10)]) rfl nd (pi_list (pe_revL (pv 7))) (blkOk_by (N := N_folded) (sc := defScope s_folded) (by decide +kernel)) (fun _ _ _ _ _ => (pg_name (i := 10) nd rfl (Or.inl rfl))) (fun _ _ _ _ _ => pts_nil) (fun _ _ _ _ _ => (pe_tup (pa_cons (pv 10) (pa_cons pe_bl pa_nil))))) pa_nil)))))
        (pss_cons (ps_set (i := 8) nd rfl (.inl rfl) (pe_op op_sub (pe_callB call_len_seq (by rfl) mlen PySem.boot_len (pa_cons (pv 3) pa_nil)) (pe_callB call_len_seq (by rfl) mlen PySem.boot_len (pa_cons (pv 7) pa_nil))))
          (pss_cons (ps_set (i := 9) nd rfl (.inl rfl) (pe_slice sl_list (pv 3) (po_some (pv 8)) po_none))
          (pss_cons (ps_delT (pv 3) (po_some (pv 8)))
          (pss_one (ps_expr (pe_bm PySem.F.plainAttrs_list PySem.F.slot_list_append PySem.F.type_list_append mt_append (pv 3) (pa_cons (pe_callF (i := 2) (sp := fun _ => sp_made K W mk Cap) (M G hΓ) hgC hgO rfl hr hj rfl vis_made (pa_cons (pv 5) (pa_cons (pv 9) pa_nil))) pa_nil))))))))))))
      (pss_one (ps_ret (pe_ix ix_list (pv 3) pe_int (fun _ _ => rfl))))))), ?_⟩
  refine ⟨Nat.zero_le _, fun dn ndn => ?_⟩
  have sd := same_upd (o := .lst []) ndn
  have hd0 : upd H dn (.lst []) dn = some (.lst []) := upd_same
  refine ⟨v, rfl, le2, fun tt ntt => ⟨small_le (show 1 ≤ 1000 by decide), fun td ntd => ?_⟩⟩
  have st := same_upd (o := .tup [v, .bl false]) ntt
  have sl := same_upd (o := .lst [.ref tt]) ntd
  have hdn := st _ _ hd0
  have hne : dn ≠ td := ne_of_none hdn ntd
  have nHtd : H td = none := sd.free (st.free ntd)
  have s3 := (sd.trans st).trans sl
  have hlenx := flatP_len he
  refine ⟨KInv K W mk zs n x v wA g dn td H, ⟨wgtL n [(x, false)], none, none, none, none, none, none, [.ref tt], [], [(x, false)], [], rfl, sl _ _ hdn, upd_same, .nil, .cons (.tup (.inl (.inl (sl _ _ upd_same))) (.cons (he.kept (KeepT.of s3) hd) (.cons (.bl false) .nil))) .nil, ?_, fun d hd => (nomatch hd), trivial, ?_, rfl, ?_, fun b ob _ _ e => s3 _ _ e⟩, ?_⟩
  · intro t ht
    rw [List.mem_singleton.mp ht]
    exact he
  · rfl
  · show 0 + (2 * (flatP n x).length + 0) ≤ _
    omega
  · rintro m σ H' ⟨z5, z6, z7, z8, z9, z10, us, vs, ts, ds, rfl, hvs, hus, hV, hU, hE, hF, hC, hR, rfl, hm, kk⟩
    have sH : Same H H' := fun b ob e => kk b ob (ne_of_none e ndn) (ne_of_none e nHtd) e
    have lU := dpAll_len hU
    rw [List.length_map] at lU
    have lV := dpAll_len hV
    have hle := tasks_le hE
    refine ⟨.ref td, rfl, !us.isEmpty, .inl ⟨us, .inl (.inl hus), rfl⟩, ?_⟩
    by_cases hts : ts = []
    · subst hts
      cases hU
      have hR : ds = [foldE W mk n x] := hR
      subst hR
      cases hV with
      | cons hv1 hv2 =>
      cases hv2
      rename_i v1
      exact iteF ⟨.ref dn, rfl, dn, _, 0, v1, rfl, rfl, .inl (.inl hvs), at0, q H' v1 sH hv1⟩
    · obtain ⟨ts', ⟨y, b⟩, rfl⟩ : ∃ ts' t, ts = ts' ++ [t] := ⟨ts.dropLast, ts.getLast hts, (List.dropLast_concat_getLast hts).symm⟩
      have hne' : us ≠ [] := by
        intro z
        rw [z, List.length_append] at lU
        cases lU
      have full : (!us.isEmpty) = true := by
        cases us with
        | nil => exact absurd rfl hne'
        | cons _ _ => rfl
      rw [full]
      obtain ⟨uy, d, xs', hsplit, huy, hU', hyd⟩ := dpAll_last hU hne'
      rw [List.map_append] at hsplit
      obtain ⟨h1, h2⟩ := List.append_inj' hsplit rfl
      have h2 : taskD (y, b) = d := (List.cons.inj h2).1
      subst h1
      subst h2
      have ey : Ex zs n y := hE (y, b) (List.mem_append_right _ (List.mem_singleton.mpr rfl))
      have hE' : ∀ t, t ∈ ts' → Ex zs n t.1 := fun t ht => hE t (List.mem_append_left _ ht)
      obtain ⟨n', rfl⟩ : ∃ n', n = n' + 1 := by
        cases n with
        | zero => cases ey
        | succ n' => exact ⟨n', rfl⟩
      have hrev : (ts' ++ [(y, b)]).reverse = (y, b) :: ts'.reverse := by
        rw [List.reverse_append]
        rfl
      rw [hrev] at hC hR
      have hw : wgtL (n' + 1) (ts' ++ [(y, b)]) = wgtL (n' + 1) ts' + wgt (n' + 1) (y, b) := by
        rw [wgtL_append]
        rfl
      have fts : flatDs (ts'.map taskD) = true := flatDs_of fun d hd => by
        obtain ⟨t, ht, rfl⟩ := List.mem_map.mp hd
        exact flat_task (hE' t ht)
      have fds : flatDs ds = true := flatDs_of hF
      refine iteT ⟨fun σ' H'' => ∃ m', m' < wgtL (n' + 1) (ts' ++ [(y, b)]) ∧ KInv K W mk zs (n' + 1) x v wA g dn td H m' σ' H'', fun σ' H'' h => h, ?_⟩
      unfold taskD at hyd
      cases hyd with
      | tup hS hB =>
      cases hB with
      | cons hv1 hB =>
      cases hB with
      | cons hv2 hB =>
      cases hB
      cases hv2
      rename_i tt2 v1
      have k1 : KeepT H' (upd H' td (.lst us.dropLast)) := KeepT.lst hus
      have hus1 : upd H' td (.lst us.dropLast) td = some (.lst us.dropLast) := upd_same
      have hvs1 : upd H' td (.lst us.dropLast) dn = some (.lst vs) := by
        rw [upd_ne hne]
        exact hvs
      have keep1 : ∀ c ob, c ≠ td → H' c = some ob → upd H' td (.lst us.dropLast) c = some ob := fun c ob hc e => by
        rw [upd_ne hc]
        exact e
      refine ⟨.ref td, rfl, .inl ⟨rfl, _, .inl (.inl hus)⟩, td, us, .ref tt2, rfl, rfl, hus, huy, tt2, [v1, .bl b], rfl, k1.seqt hS, rfl, _, _, rfl, _, _, rfl, rfl, ?_⟩
      have hU1 := dp_keepAll k1 _ _ fts hU'
      have hV1 := dp_keepAll k1 _ _ fds hV
      have hv11 := ey.kept k1 hv1
      have kH1 : KeepT H (upd H' td (.lst us.dropLast)) := (KeepT.of sH).trans k1
      have sH1 : Same H (upd H' td (.lst us.dropLast)) := fun c ob e => keep1 c ob (ne_of_none e nHtd) (sH c ob e)
      revert k1 hus1 hvs1 keep1 hU1 hV1 hv11 kH1 sH1
      generalize upd H' td (.lst us.dropLast) = H1
      intro k1 hus1 hvs1 keep1 hU1 hV1 hv11 kH1 sH1
      obtain ⟨wd, fs, rest, hform, hft, hff⟩ := ey.form
      have hkeq := kidsW_of (W := W) (rest := rest) hft
      rw [← hform] at hkeq
      have hksub := (kidsW_sub C.sub y).length_le
      have hkl := ey.kids.2
      have hfl := ey.flat
      rw [hform, flatD, flatDs, Bool.and_eq_true] at hfl
      have hv11' := hv11
      rw [hform] at hv11'
      obtain ⟨a1, ea1⟩ : ∃ a1, v1 = .ref a1 := by
        cases hv11'
        exact ⟨_, rfl⟩
      subst ea1
      refine ⟨.ref a1, rfl, .ref wA, rfl, a1, wA, wd, fs, W, rest, rfl, hv11', hft, hff, hfl.2, ?_, kH1.seqt hWt, fun H2 p us2 s2 np hp hu2 => ?_⟩
      · rw [← hkeq]
        omega
      rw [← hkeq] at hu2
      have hus2 := s2 _ _ hus1
      have hvs2 := s2 _ _ hvs1
      have k2 := KeepT.of s2
      have hy2 := ey.kept k2 hv11
      have l2 := dpAll_len hu2
      have hpd : p ≠ dn := (ne_of_none hvs1 np).symm
      have hpt : p ≠ td := (ne_of_none hus1 np).symm
      have keepH2 : ∀ c ob, c ≠ dn → c ≠ td → H c = some ob → H2 c = some ob := fun c ob h1 h2 e => s2 _ _ (keep1 _ _ h2 (kk _ _ h1 h2 e))
      have sH2 := sH1.trans s2
      have hsy := szL_kids ey
      have hfull : (!us2.isEmpty) = !(kidsW W y).isEmpty := by
        cases hu : us2 with
        | nil =>
          rw [hu] at l2
          rw [List.eq_nil_of_length_eq_zero l2.symm]
          rfl
        | cons a b =>
          rw [hu] at l2
          cases hk : kidsW W y with
          | nil =>
            rw [hk] at l2
            cases l2
          | cons _ _ => rfl
      refine ⟨.ref p, rfl, !us2.isEmpty, .inl ⟨us2, .inl (.inl hp), rfl⟩, ?_⟩
      cases hop : (!us2.isEmpty && !b) with
      | false =>
        refine and_els hop rfl ?_
        have hCR : (kidsW W y).length ≤ ds.length ∧ Can W ts'.reverse (ds.length - (kidsW W y).length + 1) ∧ run W mk (n' + 1) ts'.reverse (ds.take (ds.length - (kidsW W y).length) ++ [mk y (ds.drop (ds.length - (kidsW W y).length))]) = [foldE W mk (n' + 1) x] := by
          cases b with
          | true => exact ⟨hC.1, hC.2, hR⟩
          | false =>
            have hk0 : kidsW W y = [] := by
              rw [hfull] at hop
              cases hk : kidsW W y with
              | nil => rfl
              | cons _ _ =>
                rw [hk] at hop
                cases hop
            rw [run, foldE, hk0] at hR
            rw [hk0, List.length_nil, Nat.sub_zero, List.take_length, List.drop_length]
            exact ⟨Nat.zero_le _, hC, hR⟩
        obtain ⟨hk1, hC2, hR2⟩ := hCR
        have w1 : 1 ≤ wgt (n' + 1) (y, b) := by
          cases b
          · show 1 ≤ 2 * (flatP (n' + 1) y).length
            omega
          · exact Nat.le_refl 1
        have hstart : (vs.length : Int) - (us2.length : Int) = ((ds.length - (kidsW W y).length : Nat) : Int) := by omega
        refine ⟨.ref dn, rfl, dn, vs, rfl, .inl (.inl (.inl hvs2)), .ref p, rfl, p, us2, rfl, .inl (.inl (.inl hp)), (vs.length : Int), (us2.length : Int), rfl, rfl, ?_⟩
        generalize hst : ds.length - (kidsW W y).length = sN at hC2 hR2 hstart
        have hcut : cutV vs (some (sN : Int)) none = vs.drop sN := by
          unfold cutV
          rw [HT.sIx_none, HT.sIx_nat, show min sN vs.length = sN by omega]
          exact List.take_of_length_le (by rw [List.length_drop]; exact Nat.le_refl _)
        refine ⟨.ref dn, rfl, .int ((vs.length : Int) - (us2.length : Int)), rfl, (vs.length : Int) - (us2.length : Int), rfl, dn, vs, rfl, .inl (.inl hvs2), fun sl2 nsl => ?_⟩
        rw [hstart, hcut]
        have s3 := same_upd (o := .lst (vs.drop sN)) nsl
        have hvs3 := s3 _ _ hvs2
        have hus3 := s3 _ _ hus2
        have hsl3 : upd H2 sl2 (.lst (vs.drop sN)) sl2 = some (.lst (vs.drop sN)) := upd_same
        have sH3 := sH2.trans s3
        have hV3 := dp_keepAll (k2.trans (KeepT.of s3)) _ _ fds hV1
        have hU3 := dp_keepAll (k2.trans (KeepT.of s3)) _ _ fts hU1
        have hy3 := ey.kept (KeepT.of s3) hy2
        have nsd : sl2 ≠ dn := (ne_of_none hvs2 nsl).symm
        have nst : sl2 ≠ td := (ne_of_none hus2 nsl).symm
        have keep3 : ∀ c ob, c ≠ dn → c ≠ td → H c = some ob → upd H2 sl2 (.lst (vs.drop sN)) c = some ob := fun c ob h1 h2 e => s3 _ _ (keepH2 c ob h1 h2 e)
        revert hvs3 hus3 hsl3 sH3 hV3 hU3 hy3 keep3
        generalize upd H2 sl2 (.lst (vs.drop sN)) = H3
        intro hvs3 hus3 hsl3 sH3 hV3 hU3 hy3 keep3
        refine ⟨.ref dn, rfl, .int ((vs.length : Int) - (us2.length : Int)), rfl, (vs.length : Int) - (us2.length : Int), rfl, dn, vs, (vs.length : Int) - (us2.length : Int), rfl, rfl, hvs3, ?_⟩
        have hcutAt : cutAt vs.length (sN : Int) = sN := by
          unfold cutAt
          rw [if_neg (by omega)]
          omega
        rw [hstart, hcutAt]
        have k4 : KeepT H3 (upd H3 dn (.lst (vs.take sN))) := KeepT.lst hvs3
        have hd4 : upd H3 dn (.lst (vs.take sN)) dn = some (.lst (vs.take sN)) := upd_same
        have ht4 : upd H3 dn (.lst (vs.take sN)) td = some (.lst us.dropLast) := by
          rw [upd_ne hne.symm]
          exact hus3
        have hsl4 : upd H3 dn (.lst (vs.take sN)) sl2 = some (.lst (vs.drop sN)) := by
          rw [upd_ne nsd]
          exact hsl3
        have keep4 : ∀ c ob, c ≠ dn → c ≠ td → H c = some ob → upd H3 dn (.lst (vs.take sN)) c = some ob := fun c ob h1 h2 e => by
          rw [upd_ne h1]
          exact keep3 c ob h1 h2 e
        have sH4 : Same H (upd H3 dn (.lst (vs.take sN))) := fun c ob e => keep4 c ob (ne_of_none e ndn) (ne_of_none e nHtd) e
        have hV4 := dp_keepAll k4 _ _ fds hV3
        have hU4 := dp_keepAll k4 _ _ fts hU3
        have hy4 := ey.kept k4 hy3
        revert hd4 ht4 hsl4 keep4 sH4 hV4 hU4 hy4
        generalize upd H3 dn (.lst (vs.take sN)) = H4
        intro hd4 ht4 hsl4 keep4 sH4 hV4 hU4 hy4
        have fdrop := flatDs_drop sN fds
        refine ⟨.ref dn, rfl, .inl ⟨rfl, _, .inl (.inl hd4)⟩, g, rfl, sH4 _ _ hgF, .ref a1, rfl, .ref sl2, rfl, sH4 _ _ hgF, sH4 _ _ hgc, C.cap _ _ _ sH4 hCap, .ref a1, sl2, y, zs, n' + 1, ds.drop sN, vs.drop sN, rfl, hy4, ey, .inl (.inl hsl4), dpAll_drop _ hV4, fdrop, ?_, fun H5 r s5 hr5 => ?_⟩
        · rw [List.length_drop]
          omega
        have hd5 := s5 _ _ hd4
        have ht5 := s5 _ _ ht4
        have fr : flatD (mk y (ds.drop sN)) = true := C.flat _ _ _ _ ey fdrop
        have k6 : KeepT H5 (upd H5 dn (.lst (vs.take sN ++ [r]))) := KeepT.lst hd5
        have k56 := (KeepT.of s5).trans k6
        have ltk : (ds.take sN).length = sN := by
          rw [List.length_take]
          omega
        refine ⟨dn, _, _, rfl, rfl, hd5, ?_, wgtL (n' + 1) ts', by omega, _, _, _, _, _, _, us.dropLast, _, ts', ds.take sN ++ [mk y (ds.drop sN)], rfl, upd_same, ?_, ?_, dp_keepAll k56 _ _ fts hU4, hE', ?_, ?_, hR2, rfl, ?_, fun c ob h1 h2 e => ?_⟩
        · rw [List.length_take, sizeLine_eq]
          omega
        · rw [upd_ne hne.symm]
          exact ht5
        · exact dpAll_append (dp_keepAll k56 _ _ (flatDs_take _ fds) (dpAll_take _ hV4)) (.cons (dp_keep k6 _ _ fr hr5) .nil)
        · intro d hd
          rcases List.mem_append.mp hd with hd | hd
          · exact hF d (List.mem_of_mem_take hd)
          · rw [List.mem_singleton.mp hd]
            exact fr
        · rw [List.length_append, ltk]
          exact hC2
        · rw [List.length_append, ltk, List.length_singleton]
          omega
        · rw [upd_ne h1]
          exact s5 _ _ (keep4 c ob h1 h2 e)
      | true =>
        rw [Bool.and_eq_true, Bool.not_eq_true'] at hop
        obtain ⟨hop1, hop2⟩ := hop
        have hop2 : b = false := by
          cases b
          · rfl
          · cases hop2
        subst hop2
        rw [hop1]
        refine iteT ⟨.bl false, rfl, false, rfl, iteT ⟨.ref td, rfl, .inl ⟨rfl, _, .inl (.inl hus2)⟩, .ref a1, rfl, le2, fun t1 nt1 => ?_⟩⟩
        have s3 := same_upd (o := .tup [.ref a1, .bl true]) nt1
        have hus3 := s3 _ _ hus2
        have lUd : us.dropLast.length ≤ 4200000 := by
          rw [List.length_dropLast]
          omega
        refine ⟨td, _, _, rfl, rfl, hus3, by rw [sizeLine_eq]; omega, ?_⟩
        have k4 : KeepT (upd H2 t1 (.tup [.ref a1, .bl true])) (upd (upd H2 t1 (.tup [.ref a1, .bl true])) td (.lst (us.dropLast ++ [.ref t1]))) := KeepT.lst hus3
        have ht4 : upd (upd H2 t1 (.tup [.ref a1, .bl true])) td (.lst (us.dropLast ++ [.ref t1])) td = some (.lst (us.dropLast ++ [.ref t1])) := upd_same
        have hd4 : upd (upd H2 t1 (.tup [.ref a1, .bl true])) td (.lst (us.dropLast ++ [.ref t1])) dn = some (.lst vs) := by
          rw [upd_ne hne]
          exact s3 _ _ hvs2
        have hp4 : upd (upd H2 t1 (.tup [.ref a1, .bl true])) td (.lst (us.dropLast ++ [.ref t1])) p = some (.lst us2) := by
          rw [upd_ne hpt]
          exact s3 _ _ hp
        have keep4 : ∀ c ob, c ≠ dn → c ≠ td → H c = some ob → upd (upd H2 t1 (.tup [.ref a1, .bl true])) td (.lst (us.dropLast ++ [.ref t1])) c = some ob := fun c ob h1 h2 e => by
          rw [upd_ne h2]
          exact s3 _ _ (keepH2 c ob h1 h2 e)
        have fk : flatDs (kidsW W y) = true := flat_all (ey.kidsW C.sub)
        have fty : flatD (taskD (y, true)) = true := flat_task (t := (y, true)) ey
        have kk4 := (KeepT.of s3).trans k4
        have hty : Dp K (upd (upd H2 t1 (.tup [.ref a1, .bl true])) td (.lst (us.dropLast ++ [.ref t1]))) (.ref t1) (taskD (y, true)) :=
          dp_keep k4 _ _ fty (.tup (.inl (.inl upd_same)) (.cons (dp_keep (KeepT.of s3) _ _ ey.flat hy2) (.cons (.bl true) .nil)))
        have hU4 := dpAll_append (dp_keepAll (k2.trans kk4) _ _ fts hU1) (.cons hty .nil)
        have hV4 := dp_keepAll (k2.trans kk4) _ _ fds hV1
        have hK4 := dp_keepAll kk4 _ _ fk hu2
        revert ht4 hd4 hp4 keep4 hU4 hV4 hK4
        generalize upd (upd H2 t1 (.tup [.ref a1, .bl true])) td (.lst (us.dropLast ++ [.ref t1])) = H4
        intro ht4 hd4 hp4 keep4 hU4 hV4 hK4
        -- the kids, from the last to the first
        refine ⟨.ref td, rfl, .inl ⟨rfl, _, .inl (.inl ht4)⟩, .ref p, rfl, p, us2, rfl, .inl (.inl hp4), fun rv nrv => ⟨rv, rfl, ⟨us2.reverse, .inl (.inl upd_same)⟩, fun D nD => ?_⟩⟩
        have s5 := same_upd (o := .lst us2.reverse) nrv
        have hrv5 : upd H4 rv (.lst us2.reverse) rv = some (.lst us2.reverse) := upd_same
        revert s5 hrv5 nD
        generalize upd H4 rv (.lst us2.reverse) = H5
        intro nD s5 hrv5
        have hKr : DpAll K H5 us2.reverse (kidsW W y).reverse := dpAll_rev (dp_keepAll (KeepT.of s5) _ _ fk hK4)
        have fkr : flatDs (kidsW W y).reverse = true := flatDs_of fun d hd => (ey.kidsW C.sub d (List.mem_reverse.mp hd)).flat
        have ht5 := s5 _ _ ht4
        have hd5 := s5 _ _ hd4
        have hDt : td ≠ D := ne_of_none ht5 nD
        have hDd : dn ≠ D := ne_of_none hd5 nD
        have hrD : rv ≠ D := ne_of_none hrv5 nD
        refine walk_body (xs := us2.reverse) (fun i H' => ∃ acc, H' D = some (.lst acc) ∧ acc.length = i ∧ DpAll K H' acc (((kidsW W y).reverse.take i).map fun z => taskD (z, false)) ∧ Same H5 H') ?_ ?_ ?_ ?_
        · refine ⟨[], upd_same, rfl, ?_, same_upd nD⟩
          rw [List.take_zero]
          exact .nil
        · rintro i H6 _ ⟨acc, hD, hacc, hdp, s6⟩
          exact .inl (.inl (s6 _ _ hrv5))
        · rintro i u6 H6 hu6 ⟨acc, hD, hacc, hdp, s6⟩
          obtain ⟨dz, hdz, hvz⟩ := dpAll_at hKr hu6
          have ez := ey.kidsW C.sub dz (List.mem_reverse.mp (List.mem_of_getElem? hdz))
          have hi6 : i < us2.reverse.length := (List.getElem?_eq_some_iff.mp hu6).1
          rw [List.length_reverse] at hi6
          refine ⟨rfl, yes_then ⟨u6, rfl, le2, fun tn ntn => ?_⟩⟩
          have s7 := same_upd (o := .tup [u6, .bl false]) ntn
          have hD7 := s7 _ _ hD
          have k7 : KeepT (upd H6 tn (.tup [u6, .bl false])) (upd (upd H6 tn (.tup [u6, .bl false])) D (.lst (acc ++ [.ref tn]))) := KeepT.lst hD7
          have fpre : flatDs (((kidsW W y).reverse.take i).map fun z => taskD (z, false)) = true := flatDs_of fun d hd => by
            obtain ⟨z, hz, rfl⟩ := List.mem_map.mp hd
            exact flat_task (t := (z, false)) (ey.kidsW C.sub z (List.mem_reverse.mp (List.mem_of_mem_take hz)))
          refine ⟨acc, hD7, small1000 (by omega), acc ++ [.ref tn], upd_same, by rw [List.length_append, hacc]; rfl, ?_, fun c ob e => ?_⟩
          · rw [take_snoc hdz, List.map_append]
            refine dpAll_append (dp_keepAll ((KeepT.of s7).trans k7) _ _ fpre hdp) (.cons ?_ .nil)
            exact dp_keep k7 _ _ (flat_task (t := (dz, false)) ez) (.tup (.inl (.inl upd_same)) (.cons (ez.kept (KeepT.of (s6.trans s7)) hvz) (.cons (.bl false) .nil)))
          · rw [upd_ne (ne_of_none e nD)]
            exact s7 _ _ (s6 _ _ e)
        · rintro H6 ⟨acc, hD, hacc, hdp, s6⟩
          have lr : (kidsW W y).reverse.length = us2.reverse.length := by
            rw [List.length_reverse, List.length_reverse, l2]
          rw [← lr, List.take_length] at hdp
          rw [List.length_reverse] at hacc
          have ht6 := s6 _ _ ht5
          have hd6 := s6 _ _ hd5
          have k8 : KeepT H6 (upd H6 td (.lst (us.dropLast ++ [.ref t1] ++ acc))) := KeepT.lst ht6
          have k46 := (KeepT.of s5).trans ((KeepT.of s6).trans k8)
          have hmap : (ts' ++ [(y, true)] ++ (kidsW W y).reverse.map fun z => (z, false)).map taskD = ts'.map taskD ++ [taskD (y, true)] ++ (kidsW W y).reverse.map fun z => taskD (z, false) := by
            rw [List.map_append, List.map_append, List.map_map]
            rfl
          have fU4 : flatDs (ts'.map taskD ++ [taskD (y, true)]) = true := flatDs_append fts (by rw [flatDs, fty]; rfl)
          have fkt : flatDs ((kidsW W y).reverse.map fun z => taskD (z, false)) = true := flatDs_of fun d hd => by
            obtain ⟨z, hz, rfl⟩ := List.mem_map.mp hd
            exact flat_task (t := (z, false)) (ey.kidsW C.sub z (List.mem_reverse.mp hz))
          have hrev2 : (ts' ++ [(y, true)] ++ (kidsW W y).reverse.map fun z => (z, false)).reverse = (kidsW W y).map (fun z => (z, false)) ++ (y, true) :: ts'.reverse := by
            rw [List.reverse_append, List.reverse_append, ← List.map_reverse, List.reverse_reverse]
            rfl
          have hszr : szL (n' + 1) (kidsW W y).reverse = szL (n' + 1) (kidsW W y) := szL_perm (List.reverse_perm _)
          have hsub := szL_sub (n := n' + 1) (kidsW_sub C.sub y)
          have hwn : wgtL (n' + 1) (ts' ++ [(y, true)] ++ (kidsW W y).reverse.map fun z => (z, false)) = wgtL (n' + 1) ts' + 1 + 2 * szL (n' + 1) (kidsW W y) := by
            rw [wgtL_append, wgtL_append, wgtL_false, hszr]
            rfl
          have hwy : wgt (n' + 1) (y, false) = 2 * (flatP (n' + 1) y).length := rfl
          refine ⟨td, D, us.dropLast ++ [.ref t1], acc, rfl, rfl, ht6, hD, ?_, wgtL (n' + 1) (ts' ++ [(y, true)] ++ (kidsW W y).reverse.map fun z => (z, false)), by omega, _, _, _, _, _, _, us.dropLast ++ [.ref t1] ++ acc, vs, ts' ++ [(y, true)] ++ (kidsW W y).reverse.map fun z => (z, false), ds, rfl, ?_, upd_same, ?_, ?_, ?_, hF, ?_, ?_, rfl, by omega, fun c ob h1 h2 e => ?_⟩
          · rw [List.length_append, List.length_singleton, sizeLine_eq]
            omega
          · rw [upd_ne hne]
            exact hd6
          · exact dp_keepAll k46 _ _ fds hV4
          · rw [hmap]
            exact dpAll_append (dp_keepAll k46 _ _ fU4 hU4) (dp_keepAll k8 _ _ fkt hdp)
          · intro t ht
            rcases List.mem_append.mp ht with ht | ht
            · rcases List.mem_append.mp ht with ht | ht
              · exact hE' t ht
              · rw [List.mem_singleton.mp ht]
                exact ey
            · obtain ⟨z, hz, rfl⟩ := List.mem_map.mp ht
              exact (ey.kidsW C.sub z (List.mem_reverse.mp hz)).mono (Nat.le_succ n')
          · rw [hrev2, can_false]
            refine ⟨Nat.le_add_left _ _, ?_⟩
            rw [show ds.length + (kidsW W y).length - (kidsW W y).length + 1 = ds.length + 1 by omega]
            exact hC
          · rw [hrev2, run_open C.sub ey]
            exact hR
          · rw [upd_ne h2]
            exact s6 _ _ (s5 _ _ (keep4 c ob h1 h2 e))
end
end L19

set_option maxHeartbeats 1000000
namespace L19
open PySem PySem.Spec PyProof.Rows L2 GR WX TX RZ NdefX CLo
/-- what is made of a part: a thing of its own, or the part with what was made of its parts -/
def mkG (W : List Str) (f : PyData → Option PyData) (y : PyData) (qs : List PyData) : PyData := match f y with
  | some o => o
  | none => if qs.isEmpty then y else refillX W y qs
theorem mkG_flat {W : List Str} {f : PyData → Option PyData} (hf : ∀ y o, flatD y = true → f y = some o → flatD o = true) (zs : List Str) (n : Nat) (y : PyData) (qs : List PyData) (h : Ex zs n y) (hq : flatDs qs = true) : flatD (mkG W f y qs) = true := by
  unfold mkG
  split
  · rename_i o e
    exact hf y o h.flat e
  · split
    · exact h.flat
    · exact flat_refillX h hq
def isMade (st : Stmt) (G : NF) : Prop := ∃ (q : Str) (cl : List (Str × Addr)) (c : Addr), G = NF.of st "made" q cl c
/-! ### keyed -/
abbrev s_keyed : Stmt := topS 14
abbrev N_keyed : List Str := ["expression", "other", "made", "wanted"]
theorem sc_keyed : FnScope N_keyed ["expression", "other"] (defScope s_keyed) := ⟨rfl, rfl, rfl, by decide +kernel, rfl, by decide +kernel, by decide +kernel⟩
abbrev st_mK : Stmt := (defBody s_keyed).getD 1 (.Pass ⟨0, 0, 0, 0⟩)
abbrev N_mK : List Str := ["part", "parts", "other", "wanted"]
theorem ns_mK : NScope N_mK ["part", "parts"] ["other", "wanted"] (C8.fnScope st_mK) := nscope_by (by decide +kernel)
def fK (o : PyData) (y : PyData) : Option PyData := if headW y = "key" then some o else none
def CapK (K : PySem.W.Frag) (o : PyData) (ws : List (Option V)) (H : Hp) : Prop := ∃ (vo : V) (wA : Addr), ws = [some vo, some (.ref wA)] ∧ Dp K H vo o ∧ SqT K H wA (W1.map V.str)
theorem mkOkK {K : PySem.W.Frag} {o : PyData} (ho : flatD o = true) : MkOk W1 (mkG W1 (fK o)) (CapK K o) := by
  refine ⟨by decide, fun zs n y qs h hq => mkG_flat (fun y o' _ e => ?_) zs n y qs h hq, fun ws H H' s h => ?_⟩
  · unfold fK at e
    split at e
    · cases e
      exact ho
    · cases e
  · obtain ⟨vo, wA, rfl, h1, h2⟩ := h
    exact ⟨vo, wA, rfl, dp_keep (KeepT.of s) _ _ ho h1, (KeepT.of s).seqt h2⟩
section
variable {P : Program} {w : World} {K : PySem.W.Frag} {mg : Str → Option Value} {base : Heap}
theorem nok_mK {o : PyData} (ho : flatD o = true) {fw : Addr} {fdw : FuncData} {k : Nat} (Gw : FnOk P w K mg base CX0 k fw fdw ["expression", "wanted", "parts"] (sp_with K)) (gw : mg "with_contained_of" = some (.ref fw)) (Kw : PySem.W.keepIn K (.ref fw) = true) (bw : Binds K fdw ["expression", "wanted", "parts"] [])
    (hcd : True) : ∀ G, isMade st_mK G → ∀ g, NOk P w K mg base CX0 (k + 1) g G ["part", "parts"] ["other", "wanted"] (sp_made K W1 (mkG W1 (fK o)) (CapK K o)) := by
  rintro G ⟨q, cl, c, rfl⟩ g
  refine nok_of (N := N_mK) ns_mK (fun _ _ _ us hl => match us, hl with | [_, _], _ => rfl) (fun ws vs H Q E h => ?_) (fun A outer s H vs ws Q E hr hf hc hl h => ?_)
  · obtain ⟨_, v, p, y, zs, n, qs, ups, rfl, _⟩ := h
    rfl
  obtain ⟨⟨vo, wA, rfl, hvo, hWt⟩, v, p, y, zs, n, qs, ups, rfl, hd, he, hP, hPA, hPF, hlen, q⟩ := h
  refine ⟨_, (pss_cons (ps_if (pt_cmpR op_eq (pe_ix ix_tup (pv 0) pe_int (fun _ _ => rfl)) pe_str (nomark _))
        (pss_one (ps_ret (pv 2)))
        pss_nil)
      (pss_one (ps_ret (pe_ifExp (pt_truth (pv 1) (fun _ => rfl)) (pe_call Gw hr (by rfl) gw Kw bw .nil pass0 (pa_cons (pv 0) (pa_cons (pv 3) (pa_cons (pv 1) pa_nil)))) (pv 0))))), ?_⟩
  obtain ⟨wd, fs, rest, rfl, hft, hff⟩ := he.form
  have hfl := he.flat
  rw [flatD, flatDs, Bool.and_eq_true] at hfl
  have hk := kidsW_of (W := W1) (rest := rest) hft
  have hl6 : (kidsW W1 (.tuple (.str wd :: rest))).length ≤ 6 := by
    have h1 := (kidsW_sub (W := W1) (by decide) (.tuple (.str wd :: rest))).length_le
    cases n with
    | zero => cases he
    | succ n =>
      have h2 := he.kids.2
      omega
  have hd0 := hd
  cases hd with
  | tup hS hB =>
  cases hB with
  | cons hw hB =>
  cases hw
  rename_i a vs1
  refine ⟨.ref a, rfl, a, _, 0, .str wd, rfl, rfl, hS, at0, rfl, _, rfl, ite2 (fun e1 => ?_) (fun e1 => ?_)⟩
  · have e1 : wd = "key" := by simpa using e1
    refine ⟨vo, rfl, q H vo (fun _ _ e => e) ?_⟩
    have : mkG W1 (fK o) (.tuple (.str wd :: rest)) qs = o := by
      unfold mkG fK
      rw [if_pos (show headW (.tuple (.str wd :: rest)) = "key" from e1)]
    rw [this]
    exact hvo
  have e1 : wd ≠ "key" := fun z => e1 (by simpa using z)
  have hmk : mkG W1 (fK o) (.tuple (.str wd :: rest)) qs = if qs.isEmpty then .tuple (.str wd :: rest) else refillX W1 (.tuple (.str wd :: rest)) qs := by
    unfold mkG fK
    rw [if_neg (show ¬ headW (.tuple (.str wd :: rest)) = "key" from e1)]
  rw [hmk] at q
  have lP := dpAll_len hPA
  refine ⟨.ref p, rfl, !ups.isEmpty, .inl ⟨ups, hP, rfl⟩, ?_⟩
  cases hups : ups with
  | nil =>
    have hq0 : qs = [] := by
      rw [hups] at lP
      exact List.eq_nil_of_length_eq_zero lP.symm
    rw [hq0] at q
    exact iteF ⟨.ref a, rfl, q H _ (fun _ _ e => e) hd0⟩
  | cons u0 ur =>
    have hq0 : qs.isEmpty = false := by
      rw [hups] at lP
      cases qs with
      | nil => cases lP
      | cons _ _ => rfl
    rw [hq0] at q
    rw [← hups]
    have hup : (!ups.isEmpty) = true := by
      rw [hups]
      rfl
    rw [hup]
    refine iteT ⟨.ref a, rfl, .ref wA, rfl, .ref p, rfl, a, wA, p, wd, fs, W1, rest, qs, ups, rfl, hWt, hd0, hft, hff, hfl.2, hP, hPA, hPF, by rw [hlen, hk], by omega, fun H' r s hr' => q H' (.ref r) s ?_⟩
    have : refillX W1 (.tuple (.str wd :: rest)) qs = .tuple (.str wd :: refill W1 fs rest qs) := by
      show PyData.tuple (.str wd :: refill W1 (fieldsOf wd) rest qs) = _
      rw [show fieldsOf wd = fs from fieldsOf_table (wd, fs) hft]
    rw [this]
    exact hr'
end
end L19

set_option maxHeartbeats 1000000
namespace L19
open PySem PySem.Spec PyProof.Rows L2 GR WX TX RZ NdefX CLo LamX
def nmK : Nat → Nat → Str := fun _ _ => "keyed.<locals>.made"
def keyW (o : PyData) (n : Nat) (x : PyData) : PyData := foldE W1 (mkG W1 (fK o)) n x
def sp_keyed (K : PySem.W.Frag) (T : List NTab) : Sp := fun vs H Q _ => ∃ (v vo : V) (x o : PyData) (zs : List Str) (n : Nat), vs = [v, vo] ∧ Dp K H v x ∧ Ex zs n x ∧ Dp K H vo o ∧ flatD o = true ∧ (flatP n x).length ≤ 2100000 ∧ TabsN T H ∧ ∀ H' v', ExtN H H' → TabsN T H' → Dp K H' v' (keyW o n x) → Q v' H'
theorem KeepT.ext {H H' : Hp} (s : ExtN H H') : KeepT H H' := ⟨fun b xs e => s b _ e (fun _ z => by cases z), fun b o xs e => s b _ e (fun _ z => by cases z)⟩
abbrev mkOf (st : Stmt) (X : L2.Cx) : Addr → NF := NF.of st "made" (X.env.qual ++ "made") (cloFrom X.env.cells (C8.fnScope st).names [])
section
variable {P : Program} {w : World} {K : PySem.W.Frag} {mg : Str → Option Value} {base : Heap}
theorem ok_keyed {T : List NTab} {f ff c PT : Addr} {fd fdf : FuncData} {k : Nat} (F : FunC K "keyed" "keyed" s_keyed f fd c) (TB : TabB base mg c PT) (hm : (PT, nmK) ∈ T) (hu : ∀ p ∈ T, p.1 = PT → p.2 = nmK)
    (Gf : ∀ o, flatD o = true → FnP P w K mg base k ff fdf ["expression", "wanted", "made"] (preC (isMade st_mK) ["other", "wanted"]) (sp_folded K W1 (mkG W1 (fK o)) (CapK K o))) (gf : mg "folded" = some (.ref ff)) (Kf : PySem.W.keepIn K (.ref ff) = true) (bf : Binds K fdf ["expression", "wanted", "made"] []) :
    FnOk P w K mg base CX0 (k + 1) f fd ["expression", "other"] (sp_keyed K T) := by
  have nd := sc_keyed.nd
  refine F.ok sc_keyed (fun vs H Q E h => ?_) (fun A outer s H vs Q E hr h => ?_)
  · obtain ⟨v, vo, x, o, zs, n, rfl, _⟩ := h
    rfl
  obtain ⟨v, vo, x, o, zs, n, rfl, hd, he, hdo, hfo, hb, hT, q⟩ := h
  have hB : ndefB (defScope s_keyed) (C8.fnScope st_mK) ["other", "wanted"] = true := by decide +kernel
  refine ⟨_, (pss_cons (ps_set (i := 3) nd rfl (.inr rfl) (pe_tup (pa_cons pe_str pa_nil)))
      (pss_cons (ps_ndefMS (st := st_mK) (T := T) (nm := nmK) (c := c) (P := PT) (name := "made") (i := 2) rfl TB rfl hm rfl hu (ndef_free hB) rfl rfl rfl nd rfl (.inl rfl) (.inl rfl))
      (pss_one (ps_ret (pe_callC (mk := mkOf st_mK (cxOf CX0 P w K mg base N_keyed "keyed" (defScope s_keyed) f (.ref c) A outer s H E).nox) (js := [1, 3]) (Gf o hfo) (fun c' => ⟨_, _, _, rfl⟩) (fun _ => rfl) (fun ok => Caps.made ok (ndef_free hB) (ndef_fr hB) rfl) (fun _ => rfl) hr (by rfl) gf Kf bf (pa_cons (pv 0) (pa_cons (pv 3) (pa_cons (pv 2) pa_nil)))))))), ?_⟩
  refine ⟨Nat.le_trans (show 1 ≤ 2 by decide) le2, fun wA nw => ?_⟩
  have sw := same_upd (o := .tup [.str "free"]) nw
  have hw : upd H wA (.tup [.str "free"]) wA = some (.tup [.str "free"]) := upd_same
  revert sw hw
  generalize upd H wA (.tup [.str "free"]) = H1
  intro sw hw
  refine ⟨fun p hp => (hT p hp).ext sw, fun g c' H2 x2 _ hT2 _ hg hc => ?_⟩
  have k2 : KeepT H H2 := (KeepT.of sw).trans (KeepT.ext x2)
  have hw2 : SqT K H2 wA (W1.map V.str) := .inl (.inl (x2 _ _ hw (fun _ z => by cases z)))
  refine ⟨v, rfl, .ref wA, rfl, .ref g, rfl, g, c', hg, hc, v, wA, x, zs, n, rfl, he.kept k2 hd, he, hw2, ⟨vo, wA, rfl, dp_keep k2 _ _ hfo hdo, hw2⟩, hb, fun H3 v' s3 hr3 => q H3 v' ?_ ?_ hr3⟩
  · exact ((ExtN.of sw).trans x2).trans (ExtN.of s3)
  · exact fun p hp => (hT2 p hp).ext s3
end
end L19

set_option maxHeartbeats 1000000
namespace L19
open PySem PySem.Spec PyProof.Rows L2 GR WX TX RZ NdefX CLo LamX
/-! ### with_variables -/
abbrev s_with_variables : Stmt := topS 15
abbrev N_wv : List Str := ["expression", "others", "made"]
theorem sc_with_variables : FnScope N_wv ["expression", "others"] (defScope s_with_variables) := ⟨rfl, rfl, rfl, by decide +kernel, rfl, by decide +kernel, by decide +kernel⟩
abbrev st_mV : Stmt := (defBody s_with_variables).getD 0 (.Pass ⟨0, 0, 0, 0⟩)
abbrev N_mV : List Str := ["part", "parts", "others"]
theorem ns_mV : NScope N_mV ["part", "parts"] ["others"] (C8.fnScope st_mV) := nscope_by (by decide +kernel)
def letD (q : Int) : PyData := .tuple [.str "let", .int q]
def nameV : PyData → Str
  | .tuple [_, .str z] => z
  | _ => Str.empty
def fV (lz : Str → Option Int) (y : PyData) : Option PyData := if headW y = "var" then some (((lz (nameV y)).map letD).getD y) else none
/-- the dict at a tells lz -/
def LzAt (K : PySem.W.Frag) (H : Hp) (kvs : List (Key × V)) (lz : Str → Option Int) : Prop := ∀ z, (∃ q v, lz z = some q ∧ valV kvs (.inr z) = some v ∧ Dp K H v (letD q)) ∨ (lz z = none ∧ valV kvs (.inr z) = none)
theorem flat_letD (q : Int) : flatD (letD q) = true := rfl
theorem LzAt.keep {K : PySem.W.Frag} {H H' : Hp} {kvs : List (Key × V)} {lz : Str → Option Int} (k : KeepT H H') (h : LzAt K H kvs lz) : LzAt K H' kvs lz := fun z => (h z).elim (fun ⟨q, v, h1, h2, h3⟩ => .inl ⟨q, v, h1, h2, dp_keep k _ _ (flat_letD q) h3⟩) .inr
def CapV (K : PySem.W.Frag) (lz : Str → Option Int) (ws : List (Option V)) (H : Hp) : Prop := ∃ (a : Addr) (kvs : List (Key × V)), ws = [some (.ref a)] ∧ H a = some (.dK kvs) ∧ LzAt K H kvs lz
theorem mkOkV {K : PySem.W.Frag} {lz : Str → Option Int} : MkOk W2 (mkG W2 (fV lz)) (CapV K lz) := by
  refine ⟨fun _ h => h, fun zs n y qs h hq => mkG_flat (fun y o' hy e => ?_) zs n y qs h hq, fun ws H H' s h => ?_⟩
  · unfold fV at e
    split at e
    · cases e
      cases lz (nameV y) with
      | none => exact hy
      | some q => rfl
    · cases e
  · obtain ⟨a, kvs, rfl, h1, h2⟩ := h
    exact ⟨a, kvs, rfl, s _ _ h1, h2.keep (KeepT.of s)⟩
section
variable {P : Program} {w : World} {K : PySem.W.Frag} {mg : Str → Option Value} {base : Heap}
theorem nok_mV {lz : Str → Option Int} {fw : Addr} {fdw : FuncData} {k : Nat} (Gw : FnOk P w K mg base CX0 k fw fdw ["expression", "wanted", "parts"] (sp_with K)) (gw : mg "with_contained_of" = some (.ref fw)) (Kw : PySem.W.keepIn K (.ref fw) = true) (bw : Binds K fdw ["expression", "wanted", "parts"] [])
    {aP : Addr} (mALL : mg "ALL_PARTS" = some (.ref aP)) (TA : ∀ H, SqT K H aP (W2.map V.str)) : ∀ G, isMade st_mV G → ∀ g, NOk P w K mg base CX0 (k + 1) g G ["part", "parts"] ["others"] (sp_made K W2 (mkG W2 (fV lz)) (CapV K lz)) := by
  rintro G ⟨q, cl, c, rfl⟩ g
  refine nok_of (N := N_mV) ns_mV (fun _ _ _ us hl => match us, hl with | [_, _], _ => rfl) (fun ws vs H Q E h => ?_) (fun A outer s H vs ws Q E hr hf hc hl h => ?_)
  · obtain ⟨_, v, p, y, zs, n, qs, ups, rfl, _⟩ := h
    rfl
  obtain ⟨⟨da, kvs, rfl, hda, hlz⟩, v, p, y, zs, n, qs, ups, rfl, hd, he, hP, hPA, hPF, hlen, q⟩ := h
  have hu1 := hu_of hr
  refine ⟨_, (pss_cons (ps_if (pt_cmpR op_eq (pe_ix ix_tup (pv 0) pe_int (fun _ _ => rfl)) pe_str (nomark _))
        (pss_one (ps_ret (pe_dget2 hu1 (pv 2) (pe_ix ix_tup (pv 0) pe_int (fun _ _ => rfl)) (pv 0) ⟨by rfl, by rfl, by rfl, by rfl⟩)))
        pss_nil)
      (pss_one (ps_ret (pe_ifExp (pt_truth (pv 1) (fun _ => rfl)) (pe_call Gw hr (by rfl) gw Kw bw .nil pass0 (pa_cons (pv 0) (pa_cons (pe_glob rfl mALL (v := .ref aP) rfl) (pa_cons (pv 1) pa_nil)))) (pv 0))))), ?_⟩
  obtain ⟨wd, fs, rest, rfl, hft, hff⟩ := he.form
  have hfl := he.flat
  rw [flatD, flatDs, Bool.and_eq_true] at hfl
  have hk := kidsW_of (W := W2) (rest := rest) hft
  have hl6 : (kidsW W2 (.tuple (.str wd :: rest))).length ≤ 6 := by
    have h1 := (kidsW_sub (W := W2) (fun _ h => h) (.tuple (.str wd :: rest))).length_le
    cases n with
    | zero => cases he
    | succ n =>
      have h2 := he.kids.2
      omega
  have hd0 := hd
  cases hd with
  | tup hS hB =>
  cases hB with
  | cons hw hB =>
  cases hw
  rename_i a vs1
  refine ⟨.ref a, rfl, a, _, 0, .str wd, rfl, rfl, hS, at0, rfl, _, rfl, ite2 (fun e1 => ?_) (fun e1 => ?_)⟩
  · have e1 : wd = "var" := by simpa using e1
    subst e1
    obtain ⟨z, hz, rfl⟩ := he.var
    cases hB with
    | cons hz1 hB =>
    cases hB
    cases hz1
    have hmk : mkG W2 (fV lz) (.tuple [.str "var", .str z]) qs = ((lz z).map letD).getD (.tuple [.str "var", .str z]) := by
      unfold mkG fV
      rw [if_pos (show headW (.tuple [.str "var", .str z]) = "var" from rfl)]
      rfl
    rw [hmk] at q
    refine ⟨.ref da, rfl, da, rfl, .inl ⟨kvs, .inl hda⟩, .ref a, rfl, a, _, 1, .str z, rfl, rfl, hS, atI_nat (j := 1) rfl, .ref a, rfl, _, DGet.k (k := .inr z) hda, q H _ (fun _ _ e => e) ?_⟩
    rcases hlz z with ⟨q1, v1, h1, h2, h3⟩ | ⟨h1, h2⟩
    · rw [h1, h2]
      exact h3
    · rw [h1, h2]
      exact hd0
  have e1 : wd ≠ "var" := fun z => e1 (by simpa using z)
  have hmk : mkG W2 (fV lz) (.tuple (.str wd :: rest)) qs = if qs.isEmpty then .tuple (.str wd :: rest) else refillX W2 (.tuple (.str wd :: rest)) qs := by
    unfold mkG fV
    rw [if_neg (show ¬ headW (.tuple (.str wd :: rest)) = "var" from e1)]
  rw [hmk] at q
  have lP := dpAll_len hPA
  refine ⟨.ref p, rfl, !ups.isEmpty, .inl ⟨ups, hP, rfl⟩, ?_⟩
  cases hups : ups with
  | nil =>
    have hq0 : qs = [] := by
      rw [hups] at lP
      exact List.eq_nil_of_length_eq_zero lP.symm
    rw [hq0] at q
    exact iteF ⟨.ref a, rfl, q H _ (fun _ _ e => e) hd0⟩
  | cons u0 ur =>
    have hq0 : qs.isEmpty = false := by
      rw [hups] at lP
      cases qs with
      | nil => cases lP
      | cons _ _ => rfl
    rw [hq0] at q
    rw [← hups]
    have hup : (!ups.isEmpty) = true := by
      rw [hups]
      rfl
    rw [hup]
    refine iteT ⟨.ref a, rfl, .ref p, rfl, a, aP, p, wd, fs, W2, rest, qs, ups, rfl, TA H, hd0, hft, hff, hfl.2, hP, hPA, hPF, by rw [hlen, hk], by omega, fun H' r s hr' => q H' (.ref r) s ?_⟩
    have : refillX W2 (.tuple (.str wd :: rest)) qs = .tuple (.str wd :: refill W2 fs rest qs) := by
      show PyData.tuple (.str wd :: refill W2 (fieldsOf wd) rest qs) = _
      rw [show fieldsOf wd = fs from fieldsOf_table (wd, fs) hft]
    rw [this]
    exact hr'
def nmV : Nat → Nat → Str := fun _ _ => "with_variables.<locals>.made"
def varW (lz : Str → Option Int) (n : Nat) (x : PyData) : PyData := foldE W2 (mkG W2 (fV lz)) n x
def sp_wv (K : PySem.W.Frag) (T : List NTab) : Sp := fun vs H Q _ => ∃ (v : V) (da : Addr) (kvs : List (Key × V)) (lz : Str → Option Int) (x : PyData) (zs : List Str) (n : Nat), vs = [v, .ref da] ∧ Dp K H v x ∧ Ex zs n x ∧ H da = some (.dK kvs) ∧ LzAt K H kvs lz ∧ (flatP n x).length ≤ 2100000 ∧ TabsN T H ∧ ∀ H' v', ExtN H H' → TabsN T H' → Dp K H' v' (varW lz n x) → Q v' H'
theorem ok_with_variables {T : List NTab} {f ff c PT : Addr} {fd fdf : FuncData} {k : Nat} (F : FunC K "with_variables" "with_variables" s_with_variables f fd c) (TB : TabB base mg c PT) (hm : (PT, nmV) ∈ T) (hu : ∀ p ∈ T, p.1 = PT → p.2 = nmV)
    (Gf : ∀ lz, FnP P w K mg base k ff fdf ["expression", "wanted", "made"] (preC (isMade st_mV) ["others"]) (sp_folded K W2 (mkG W2 (fV lz)) (CapV K lz))) (gf : mg "folded" = some (.ref ff)) (Kf : PySem.W.keepIn K (.ref ff) = true) (bf : Binds K fdf ["expression", "wanted", "made"] [])
    {aP : Addr} (mALL : mg "ALL_PARTS" = some (.ref aP)) (TA : ∀ H, SqT K H aP (W2.map V.str)) :
    FnOk P w K mg base CX0 (k + 1) f fd ["expression", "others"] (sp_wv K T) := by
  have nd := sc_with_variables.nd
  refine F.ok sc_with_variables (fun vs H Q E h => ?_) (fun A outer s H vs Q E hr h => ?_)
  · obtain ⟨v, da, kvs, lz, x, zs, n, rfl, _⟩ := h
    rfl
  obtain ⟨v, da, kvs, lz, x, zs, n, rfl, hd, he, hda, hlz, hb, hT, q⟩ := h
  have hB : ndefB (defScope s_with_variables) (C8.fnScope st_mV) ["others"] = true := by decide +kernel
  refine ⟨_, (pss_cons (ps_ndefMS (st := st_mV) (T := T) (nm := nmV) (c := c) (P := PT) (name := "made") (i := 2) rfl TB rfl hm rfl hu (ndef_free hB) rfl rfl rfl nd rfl (.inl rfl) (.inl rfl))
      (pss_one (ps_ret (pe_callC (mk := mkOf st_mV (cxOf CX0 P w K mg base N_wv "with_variables" (defScope s_with_variables) f (.ref c) A outer s H E).nox) (js := [1]) (Gf lz) (fun c' => ⟨_, _, _, rfl⟩) (fun _ => rfl) (fun ok => Caps.made ok (ndef_free hB) (ndef_fr hB) rfl) (fun _ => rfl) hr (by rfl) gf Kf bf (pa_cons (pv 0) (pa_cons (pe_glob rfl mALL (v := .ref aP) rfl) (pa_cons (pv 2) pa_nil))))))), ?_⟩
  refine ⟨hT, fun g c' H2 x2 _ hT2 _ hg hc => ?_⟩
  have k2 : KeepT H H2 := KeepT.ext x2
  refine ⟨v, rfl, .ref g, rfl, g, c', hg, hc, v, aP, x, zs, n, rfl, he.kept k2 hd, he, TA H2, ⟨da, kvs, rfl, x2 _ _ hda (fun _ z => by cases z), hlz.keep k2⟩, hb, fun H3 v' s3 hr3 => q H3 v' ?_ ?_ hr3⟩
  · exact x2.trans (ExtN.of s3)
  · exact fun p hp => (hT2 p hp).ext s3
end
end L19

set_option maxHeartbeats 1000000
namespace L19
open PySem PySem.Spec PyProof.Rows L2 GR WX TX RZ
/-! ### what becomes of each form -/
theorem kidsW2 (x : PyData) : kidsW W2 x = kids x := by
  unfold kidsW kids
  rfl
theorem kidsW1 (x : PyData) : kidsW W1 x = kidsF x := by
  unfold kidsW kidsF
  rfl
theorem fo {w : Str} {fs : List Str} (h : (w, fs) ∈ table) : fieldsOf w = fs := fieldsOf_table (w, fs) h
theorem r_no {W : List Str} {f : Str} {d : PyData} {fs : List Str} {ds qs : List PyData} (h : f ≠ "extra") (h2 : f ∉ W) : refill W (f :: fs) (d :: ds) qs = d :: refill W fs ds qs := by
  have e : takes W f d = 0 := by
    unfold takes pick1
    rw [if_neg h, if_neg h2]
    rfl
  rw [refill, e, List.drop_zero, refill1, if_neg h, if_neg h2]
theorem r_yes {W : List Str} {f : Str} {d q : PyData} {fs : List Str} {ds qs : List PyData} (h : f ≠ "extra") (h2 : f ∈ W) : refill W (f :: fs) (d :: ds) (q :: qs) = q :: refill W fs ds qs := by
  have e : takes W f d = 1 := by
    unfold takes pick1
    rw [if_neg h, if_pos h2]
    rfl
  rw [refill, e, refill1, if_neg h, if_pos h2]
  rfl
theorem r_ex0 {W : List Str} {fs : List Str} {ds qs : List PyData} : refill W ("extra" :: fs) (.tuple [] :: ds) qs = .tuple [] :: refill W fs ds qs := by
  have e : takes W "extra" (.tuple []) = 0 := by
    unfold takes pick1
    rw [if_pos rfl]
    rfl
  rw [refill, e, List.drop_zero, refill1, if_pos rfl]
  rfl
theorem r_nil {W : List Str} {qs : List PyData} : refill W [] [] qs = [] := by simp only [refill]
theorem mkV_no {lz : Str → Option Int} {o : Str} {ds qs : List PyData} (h : o ≠ "var") : mkG W2 (fV lz) (.tuple (.str o :: ds)) qs = if qs.isEmpty then .tuple (.str o :: ds) else .tuple (.str o :: refill W2 (fieldsOf o) ds qs) := by
  unfold mkG fV
  rw [if_neg (show ¬ headW (.tuple (.str o :: ds)) = "var" from h)]
  rfl
theorem mkK_no {k : PyData} {o : Str} {ds qs : List PyData} (h : o ≠ "key") : mkG W1 (fK k) (.tuple (.str o :: ds)) qs = if qs.isEmpty then .tuple (.str o :: ds) else .tuple (.str o :: refill W1 (fieldsOf o) ds qs) := by
  unfold mkG fK
  rw [if_neg (show ¬ headW (.tuple (.str o :: ds)) = "key" from h)]
  rfl
section
variable {lz : Str → Option Int} {n : Nat}
theorem varW_s (x : PyData) : varW lz (n + 1) x = mkG W2 (fV lz) x ((kids x).map (varW lz n)) := by
  unfold varW
  rw [foldE, kidsW2]
theorem v_leaf {zs : List Str} {o : Str} {ds : List PyData} (h : Leaf zs (.tuple (.str o :: ds))) (ho : o ≠ "var") : varW lz (n + 1) (.tuple (.str o :: ds)) = .tuple (.str o :: ds) := by
  rw [varW_s, kids_leaf h, mkV_no ho]
  rfl
theorem v_var {z : Str} {q : Int} (h : lz z = some q) : varW lz (n + 1) (.tuple [.str "var", .str z]) = letD q := by
  rw [varW_s]
  unfold mkG fV
  rw [if_pos (show headW (.tuple [.str "var", .str z]) = "var" from rfl)]
  show ((lz z).map letD).getD _ = _
  rw [h]
  rfl
theorem v_cell {t v : Str} {x : PyData} : varW lz (n + 1) (.tuple [.str "cell", .str t, x, .str v]) = .tuple [.str "cell", .str t, varW lz n x, .str v] := by
  rw [varW_s, kids_cell, mkV_no (by decide), fo (w := "cell") (fs := ["name", "free", "name"]) (by decide), List.map_cons, List.map_nil, if_neg (by simp), r_no (by decide) (by decide), r_yes (by decide) (by decide), r_no (by decide) (by decide), r_nil]
theorem v_op {o : Str} {x y : PyData} (h : o ∈ opws) : varW lz (n + 1) (.tuple [.str o, x, y]) = .tuple [.str o, varW lz n x, varW lz n y] := by
  rw [varW_s, kids_op h]
  simp only [opws, List.mem_cons, List.not_mem_nil, or_false] at h
  rcases h with rfl | rfl | rfl | rfl | rfl | rfl
  · rw [mkV_no (by decide), fo (w := "+") (fs := ["free", "free"]) (by decide), List.map_cons, List.map_cons, List.map_nil, if_neg (by simp), r_yes (by decide) (by decide), r_yes (by decide) (by decide), r_nil]
  · rw [mkV_no (by decide), fo (w := "-") (fs := ["free", "free"]) (by decide), List.map_cons, List.map_cons, List.map_nil, if_neg (by simp), r_yes (by decide) (by decide), r_yes (by decide) (by decide), r_nil]
  · rw [mkV_no (by decide), fo (w := "*") (fs := ["free", "free"]) (by decide), List.map_cons, List.map_cons, List.map_nil, if_neg (by simp), r_yes (by decide) (by decide), r_yes (by decide) (by decide), r_nil]
  · rw [mkV_no (by decide), fo (w := "<") (fs := ["free", "free"]) (by decide), List.map_cons, List.map_cons, List.map_nil, if_neg (by simp), r_yes (by decide) (by decide), r_yes (by decide) (by decide), r_nil]
  · rw [mkV_no (by decide), fo (w := "=") (fs := ["free", "free"]) (by decide), List.map_cons, List.map_cons, List.map_nil, if_neg (by simp), r_yes (by decide) (by decide), r_yes (by decide) (by decide), r_nil]
  · rw [mkV_no (by decide), fo (w := "at") (fs := ["free", "bound"]) (by decide), List.map_cons, List.map_cons, List.map_nil, if_neg (by simp), r_yes (by decide) (by decide), r_yes (by decide) (by decide), r_nil]
theorem v_if {x y z : PyData} : varW lz (n + 1) (.tuple [.str "if", x, y, z]) = .tuple [.str "if", varW lz n x, varW lz n y, varW lz n z] := by
  rw [varW_s, kids_if, mkV_no (by decide), fo (w := "if") (fs := ["free", "free", "free"]) (by decide), List.map_cons, List.map_cons, List.map_cons, List.map_nil, if_neg (by simp), r_yes (by decide) (by decide), r_yes (by decide) (by decide), r_yes (by decide) (by decide), r_nil]
theorem v_agg {o t : Str} {r p : PyData} {vs ds : List PyData} (h : (o, vs.length, ds.length) ∈ aggk) : varW lz (n + 1) (.tuple (.str o :: .str t :: .tuple [] :: r :: p :: (vs ++ ds))) = .tuple (.str o :: .str t :: .tuple [] :: varW lz n r :: varW lz n p :: (vs.map (varW lz n) ++ ds.map (varW lz n))) := by
  rw [varW_s, kids_agg (by rw [List.length_cons, List.length_cons, List.length_append]; exact (aggk_aggs h).1), List.nil_append]
  simp only [aggk, List.mem_cons, List.not_mem_nil, or_false, Prod.mk.injEq] at h
  rcases h with ⟨rfl, hv, hd⟩ | ⟨rfl, hv, hd⟩ | ⟨rfl, hv, hd⟩ | ⟨rfl, hv, hd⟩
  · rw [List.eq_nil_of_length_eq_zero hv, List.eq_nil_of_length_eq_zero hd, List.append_nil, mkV_no (by decide), fo (w := "count") (fs := ["name", "extra", "bound", "bound"]) (by decide), List.map_cons, List.map_cons, List.map_nil, if_neg (by simp), r_no (by decide) (by decide), r_ex0, r_yes (by decide) (by decide), r_yes (by decide) (by decide), r_nil]
    rfl
  · obtain ⟨v, rfl⟩ := List.length_eq_one_iff.mp hv
    rw [List.eq_nil_of_length_eq_zero hd, List.append_nil, mkV_no (by decide), fo (w := "sum") (fs := ["name", "extra", "bound", "bound", "bound"]) (by decide), List.map_cons, List.map_cons, List.map_cons, List.map_nil, if_neg (by simp), r_no (by decide) (by decide), r_ex0, r_yes (by decide) (by decide), r_yes (by decide) (by decide), r_yes (by decide) (by decide), r_nil]
    rfl
  · obtain ⟨v, rfl⟩ := List.length_eq_one_iff.mp hv
    obtain ⟨d, rfl⟩ := List.length_eq_one_iff.mp hd
    rw [List.cons_append, List.nil_append, mkV_no (by decide), fo (w := "most") (fs := ["name", "extra", "bound", "bound", "bound", "free"]) (by decide), List.map_cons, List.map_cons, List.map_cons, List.map_cons, List.map_nil, if_neg (by simp), r_no (by decide) (by decide), r_ex0, r_yes (by decide) (by decide), r_yes (by decide) (by decide), r_yes (by decide) (by decide), r_yes (by decide) (by decide), r_nil]
    rfl
  · obtain ⟨d, rfl⟩ := List.length_eq_one_iff.mp hd
    rw [List.eq_nil_of_length_eq_zero hv, List.nil_append, mkV_no (by decide), fo (w := "first") (fs := ["name", "extra", "bound", "bound", "free"]) (by decide), List.map_cons, List.map_cons, List.map_cons, List.map_nil, if_neg (by simp), r_no (by decide) (by decide), r_ex0, r_yes (by decide) (by decide), r_yes (by decide) (by decide), r_yes (by decide) (by decide), r_nil]
    rfl
theorem v_row {t : Str} (hn : 2 ≤ n) : varW lz n (rowX t) = rowX t := by
  obtain ⟨k, rfl⟩ : ∃ k, n = k + 2 := ⟨n - 2, by omega⟩
  show varW lz (k + 2) (.tuple [.str "cell", .str t, .tuple [.str "key"], .str "in"]) = _
  rw [v_cell, v_leaf (zs := []) .key (by decide)]
  rfl
end
section
variable {k : PyData} {n : Nat}
theorem keyW_s (x : PyData) : keyW k (n + 1) x = mkG W1 (fK k) x ((kidsF x).map (keyW k n)) := by
  unfold keyW
  rw [foldE, kidsW1]
theorem k_key : keyW k (n + 1) (.tuple [.str "key"]) = k := by
  rw [keyW_s]
  unfold mkG fK
  rw [if_pos (show headW (.tuple [.str "key"]) = "key" from rfl)]
theorem k_int {i : Int} : keyW k (n + 1) (.tuple [.str "int", .int i]) = .tuple [.str "int", .int i] := by
  rw [keyW_s, kidsF_of (fs := ["value"]) (by decide), q_no (by decide) (by decide), q_nil, mkK_no (by decide)]
  rfl
theorem k_let {i : Int} : keyW k (n + 1) (.tuple [.str "let", .int i]) = .tuple [.str "let", .int i] := by
  rw [keyW_s, kidsF_of (fs := ["position"]) (by decide), q_no (by decide) (by decide), q_nil, mkK_no (by decide)]
  rfl
theorem k_cell {t v : Str} {x : PyData} : keyW k (n + 1) (.tuple [.str "cell", .str t, x, .str v]) = .tuple [.str "cell", .str t, keyW k n x, .str v] := by
  rw [keyW_s, kidsF_of (fs := ["name", "free", "name"]) (by decide), q_no (by decide) (by decide), q_yes (by decide) (by decide), q_no (by decide) (by decide), q_nil, mkK_no (by decide), fo (w := "cell") (fs := ["name", "free", "name"]) (by decide), List.map_cons, List.map_nil, if_neg (by simp), r_no (by decide) (by decide), r_yes (by decide) (by decide), r_no (by decide) (by decide), r_nil]
theorem k_op {o : Str} {x y : PyData} (h : o ∈ ops5) : keyW k (n + 1) (.tuple [.str o, x, y]) = .tuple [.str o, keyW k n x, keyW k n y] := by
  have hs : ∀ o, o ∈ ops5 → o ≠ "key" ∧ ((o, ["free", "free"]) : Str × List Str) ∈ table := by decide
  obtain ⟨h1, h2⟩ := hs o h
  rw [keyW_s, kidsF_of h2, q_yes (by decide) (by decide), q_yes (by decide) (by decide), q_nil, mkK_no h1, fo (w := o) (fs := ["free", "free"]) h2, List.map_cons, List.map_cons, List.map_nil, if_neg (by simp), r_yes (by decide) (by decide), r_yes (by decide) (by decide), r_nil]
theorem k_at {x y : PyData} : keyW k (n + 1) (.tuple [.str "at", x, y]) = .tuple [.str "at", keyW k n x, y] := by
  rw [keyW_s, kidsF_of (fs := ["free", "bound"]) (by decide), q_yes (by decide) (by decide), q_no (by decide) (by decide), q_nil, mkK_no (by decide), fo (w := "at") (fs := ["free", "bound"]) (by decide), List.map_cons, List.map_nil, if_neg (by simp), r_yes (by decide) (by decide), r_no (by decide) (by decide), r_nil]
theorem k_if {x y z : PyData} : keyW k (n + 1) (.tuple [.str "if", x, y, z]) = .tuple [.str "if", keyW k n x, keyW k n y, keyW k n z] := by
  rw [keyW_s, kidsF_of (fs := ["free", "free", "free"]) (by decide), q_yes (by decide) (by decide), q_yes (by decide) (by decide), q_yes (by decide) (by decide), q_nil, mkK_no (by decide), fo (w := "if") (fs := ["free", "free", "free"]) (by decide), List.map_cons, List.map_cons, List.map_cons, List.map_nil, if_neg (by simp), r_yes (by decide) (by decide), r_yes (by decide) (by decide), r_yes (by decide) (by decide), r_nil]
theorem k_agg {o t : Str} {r p : PyData} {vs ds : List PyData} (h : (o, vs.length, ds.length) ∈ aggk) : keyW k (n + 1) (.tuple (.str o :: .str t :: .tuple [] :: r :: p :: (vs ++ ds))) = .tuple (.str o :: .str t :: .tuple [] :: r :: p :: (vs ++ ds.map (keyW k n))) := by
  rw [keyW_s]
  simp only [aggk, List.mem_cons, List.not_mem_nil, or_false, Prod.mk.injEq] at h
  rcases h with ⟨rfl, hv, hd⟩ | ⟨rfl, hv, hd⟩ | ⟨rfl, hv, hd⟩ | ⟨rfl, hv, hd⟩
  · rw [List.eq_nil_of_length_eq_zero hv, List.eq_nil_of_length_eq_zero hd, List.append_nil, kidsF_of (fs := ["name", "extra", "bound", "bound"]) (by decide), q_no (by decide) (by decide), q_ex, List.nil_append, q_no (by decide) (by decide), q_no (by decide) (by decide), q_nil, mkK_no (by decide)]
    rfl
  · obtain ⟨v, rfl⟩ := List.length_eq_one_iff.mp hv
    rw [List.eq_nil_of_length_eq_zero hd, List.append_nil, kidsF_of (fs := ["name", "extra", "bound", "bound", "bound"]) (by decide), q_no (by decide) (by decide), q_ex, List.nil_append, q_no (by decide) (by decide), q_no (by decide) (by decide), q_no (by decide) (by decide), q_nil, mkK_no (by decide)]
    rfl
  · obtain ⟨v, rfl⟩ := List.length_eq_one_iff.mp hv
    obtain ⟨d, rfl⟩ := List.length_eq_one_iff.mp hd
    rw [List.cons_append, List.nil_append, kidsF_of (fs := ["name", "extra", "bound", "bound", "bound", "free"]) (by decide), q_no (by decide) (by decide), q_ex, List.nil_append, q_no (by decide) (by decide), q_no (by decide) (by decide), q_no (by decide) (by decide), q_yes (by decide) (by decide), q_nil, mkK_no (by decide), fo (w := "most") (fs := ["name", "extra", "bound", "bound", "bound", "free"]) (by decide), List.map_cons, List.map_nil, if_neg (by simp), r_no (by decide) (by decide), r_ex0, r_no (by decide) (by decide), r_no (by decide) (by decide), r_no (by decide) (by decide), r_yes (by decide) (by decide), r_nil]
    rfl
  · obtain ⟨d, rfl⟩ := List.length_eq_one_iff.mp hd
    rw [List.eq_nil_of_length_eq_zero hv, List.nil_append, kidsF_of (fs := ["name", "extra", "bound", "bound", "free"]) (by decide), q_no (by decide) (by decide), q_ex, List.nil_append, q_no (by decide) (by decide), q_no (by decide) (by decide), q_yes (by decide) (by decide), q_nil, mkK_no (by decide), fo (w := "first") (fs := ["name", "extra", "bound", "bound", "free"]) (by decide), List.map_cons, List.map_nil, if_neg (by simp), r_no (by decide) (by decide), r_ex0, r_no (by decide) (by decide), r_no (by decide) (by decide), r_yes (by decide) (by decide), r_nil]
    rfl
end
/-! ### what is made is an expression again -/
theorem Cx.varW {zs sc : List Str} {lz : Str → Option Int} (hl : ∀ z, z ∈ sc → ∃ q, lz z = some q ∧ 0 ≤ q ∧ q ≤ 10000) {b : Bool} {n : Nat} {x : PyData} (h : Cx zs sc b n x) : Cx ("+" :: zs) [] b n (varW lz n x) := by
  induction h with
  | int b n i h1 h2 =>
    rw [v_leaf (zs := []) (.int i h1 h2) (by decide)]
    exact .int b n i h1 h2
  | let_ b n i g h1 h2 =>
    rw [v_leaf (zs := []) (.let_ i h1 h2) (by decide)]
    exact .let_ b n i List.mem_cons_self h1 h2
  | key n =>
    rw [v_leaf (zs := []) .key (by decide)]
    exact .key n
  | var b n z h1 =>
    obtain ⟨q, e, q0, q1⟩ := hl z h1
    rw [v_var e]
    exact .let_ b n q List.mem_cons_self q0 q1
  | cell b n t v x h1 h2 _ ih =>
    rw [v_cell]
    exact .cell b n t v _ ⟨List.mem_cons_of_mem _ h1.1, h1.2⟩ ⟨List.mem_cons_of_mem _ h2.1, h2.2⟩ ih
  | op b n o x y h1 _ _ ih1 ih2 =>
    rw [v_op ((show ∀ o, o ∈ ops5 → o ∈ opws by decide) o h1)]
    exact .op b n o _ _ h1 ih1 ih2
  | at_ b n x y _ _ ih1 ih2 =>
    rw [v_op (by decide)]
    exact .at_ b n _ _ ih1 ih2
  | iff b n x y z _ _ _ ih1 ih2 ih3 =>
    rw [v_if]
    exact .iff b n _ _ _ ih1 ih2 ih3
  | agg b n o t p xs vs ds hh h0 h1 h2 h3 _ _ _ _ _ ih2 ih3 ih4 =>
    obtain rfl : xs = [] := List.eq_nil_of_length_eq_zero (Nat.le_zero.mp h3)
    rw [v_agg h1, v_row h0]
    refine .agg b n o t _ [] _ _ (List.mem_cons_of_mem _ hh) h0 (by rw [List.length_map, List.length_map]; exact h1) ⟨List.mem_cons_of_mem _ h2.1, h2.2⟩ (Nat.le_refl _) (fun x hx => (nomatch hx)) ih2 (fun x hx => ?_) (fun x hx => ?_)
    · obtain ⟨y, hy, rfl⟩ := List.mem_map.mp hx
      exact ih3 y hy
    · obtain ⟨y, hy, rfl⟩ := List.mem_map.mp hx
      exact ih4 y hy
def intD (k : Int) : PyData := .tuple [.str "int", .int k]
theorem Cx.keyW {zs : List Str} {k : Int} (h1 : -(10 ^ 18) ≤ k) (h2 : k ≤ 10 ^ 18) {b : Bool} {n : Nat} {x : PyData} (h : Cx zs [] b n x) : Cx zs [] false n (keyW (intD k) n x) := by
  induction h with
  | int b n i g1 g2 =>
    rw [k_int]
    exact .int false n i g1 g2
  | let_ b n i g g1 g2 =>
    rw [k_let]
    exact .let_ false n i g g1 g2
  | key n =>
    rw [k_key]
    exact .int false n k h1 h2
  | var b n z g1 => exact (nomatch g1)
  | cell b n t v x g1 g2 _ ih =>
    rw [k_cell]
    exact .cell false n t v _ g1 g2 ih
  | op b n o x y g1 _ _ ih1 ih2 =>
    rw [k_op g1]
    exact .op false n o _ _ g1 ih1 ih2
  | at_ b n x y _ g2 ih1 _ =>
    rw [k_at]
    exact .at_ false n _ _ ih1 g2
  | iff b n x y z _ _ _ ih1 ih2 ih3 =>
    rw [k_if]
    exact .iff false n _ _ _ ih1 ih2 ih3
  | agg b n o t p xs vs ds hh h0 g1 g2 g3 _ g5 g6 _ _ _ _ ih4 =>
    obtain rfl : xs = [] := List.eq_nil_of_length_eq_zero (Nat.le_zero.mp g3)
    rw [k_agg g1]
    refine .agg false n o t _ [] _ _ hh h0 (by rw [List.length_map]; exact g1) g2 (Nat.le_refl _) (fun x hx => (nomatch hx)) g5 g6 (fun x hx => ?_)
    obtain ⟨y, hy, rfl⟩ := List.mem_map.mp hx
    exact ih4 y hy
/-- .. with lets in place of variables, a number in place of the key, if there is one -/
def pfE (lz : Str → Option Int) : Option Int → Nat → PyData → PyData
  | none, n, x => L19.varW lz n x
  | some k, n, x => L19.keyW (intD k) n (L19.varW lz n x)
end L19

namespace L19
open PySem PySem.Spec PyProof.Rows L2 GR WX TX RZ
/-! ### the law's own putting -/
theorem no_w {w z : Str} {A B : Prop} (h : w ≠ z) (b : B) : if decide (V.str w = V.str z) = true then A else B := by
  rw [if_neg fun c => h (V.str.inj (of_decide_eq_true c))]
  exact b
theorem yes_w {w z : Str} {A B : Prop} (h : w = z) (a : A) : if decide (V.str w = V.str z) = true then A else B := by
  rw [if_pos (decide_eq_true (by rw [h]))]
  exact a
/-- a walk over a tuple of data that makes a thing of each -/
theorem map_walk {K : PySem.W.Frag} {c D : Addr} {vs0 : List V} {ds0 : List PyData} {F : PyData → PyData} {H1 : Hp} {body : V → Hp → (Hp → Prop) → Prop} {Qd : Hp → Prop} (hF : ∀ d, d ∈ ds0 → flatD (F d) = true) (hS : SqT K H1 c vs0) (hA : DpAll K H1 vs0 ds0) (hfl : flatDs ds0 = true) (nD : H1 D = none) (hlen : vs0.length ≤ 1000)
    (hs : ∀ v d H' acc (Nx : Hp → Prop), d ∈ ds0 → Same H1 H' → Dp K H' v d → H' D = some (.lst acc) → acc.length < sizeLine → (∀ H'' v', Same H' H'' → Dp K H'' v' (F d) → Nx (upd H'' D (.lst (acc ++ [v'])))) → body v H' Nx)
    (hd : ∀ H' acc, Same H1 H' → H' D = some (.lst acc) → DpAll K H' acc (ds0.map F) → Qd H') :
    ∃ W : Nat → Nat → Hp → Prop, (∃ m, W 0 m (upd H1 D (.lst []))) ∧ ∀ i m H, W i m H → ((Itt K c).stop i H ∧ Qd H) ∨ ((Itt K c).go i H ∧ ∃ Nx : Hp → Prop, (∀ H', Nx H' → ∃ m', m' < m ∧ W (i + 1) m' H') ∧ ∀ x H', (Itt K c).yld i H x H' → body x H' Nx) := by
  have w := walk_tup (K := K) (a := c) (xs := vs0)
  have hl := dpAll_len hA
  let Pv : Nat → Hp → Prop := fun i H' => ∃ acc, H' D = some (.lst acc) ∧ acc.length = i ∧ DpAll K H' acc ((ds0.take i).map F) ∧ Same H1 H'
  refine ⟨fun i m H => m = vs0.length - i ∧ i ≤ vs0.length ∧ Pv i H, ⟨vs0.length, rfl, Nat.zero_le _, [], upd_same, rfl, ?_, same_upd nD⟩, ?_⟩
  · rw [List.take_zero]
    exact .nil
  rintro i m H ⟨rfl, hi, acc, hD, hacc, hdp, sm⟩
  have q : SqT K H c vs0 := (KeepT.of sm).seqt hS
  by_cases hlt : i < vs0.length
  · refine .inr ⟨w.goes i H hlt q, Pv (i + 1), fun H' p' => ⟨vs0.length - (i + 1), by omega, rfl, hlt, p'⟩, fun x H' y => ?_⟩
    obtain ⟨rfl, hx⟩ := w.yields i H x H' hlt q y
    obtain ⟨d, hd1, hd2⟩ := dpAll_at hA hx
    have hmem := List.mem_of_getElem? hd1
    have fd := flatDs_at hfl hd1
    refine hs x d _ acc _ hmem sm (dp_keep (KeepT.of sm) _ _ fd hd2) hD (small1000 (by omega)) fun H'' v' s2 hr2 => ?_
    have hD2 := s2 _ _ hD
    have kD : KeepT H'' (upd H'' D (.lst (acc ++ [v']))) := KeepT.lst hD2
    have fpre : flatDs ((ds0.take i).map F) = true := flatDs_of fun e he => by
      obtain ⟨e', he', rfl⟩ := List.mem_map.mp he
      exact hF e' (List.mem_of_mem_take he')
    refine ⟨acc ++ [v'], upd_same, by rw [List.length_append, hacc]; rfl, ?_, fun b ob e => ?_⟩
    · rw [take_snoc hd1, List.map_append]
      exact dpAll_append (dp_keepAll ((KeepT.of s2).trans kD) _ _ fpre hdp) (.cons (dp_keep kD _ _ (hF d hmem) hr2) .nil)
    · rw [upd_ne (ne_of_none e nD)]
      exact s2 _ _ (sm _ _ e)
  · obtain rfl : i = vs0.length := by omega
    refine .inl ⟨w.stops H q, hd H acc sm hD ?_⟩
    rw [hl, List.take_length] at hdp
    exact hdp
section
variable {lz : Str → Option Int} {ko : Option Int} {n : Nat}
theorem pf_int {i : Int} : pfE lz ko (n + 1) (.tuple [.str "int", .int i]) = .tuple [.str "int", .int i] := by
  have e : varW lz (n + 1) (.tuple [.str "int", .int i]) = .tuple [.str "int", .int i] := by
    rw [varW_s, kids_of (fs := ["value"]) (by decide), p_no (by decide) (by decide), p_nil, mkV_no (by decide)]
    rfl
  cases ko with
  | none => exact e
  | some k =>
    show keyW _ _ (varW lz _ _) = _
    rw [e, k_int]
theorem pf_key : pfE lz ko (n + 1) (.tuple [.str "key"]) = match ko with
    | none => .tuple [.str "key"]
    | some k => intD k := by
  have e : varW lz (n + 1) (.tuple [.str "key"]) = .tuple [.str "key"] := v_leaf (zs := []) .key (by decide)
  cases ko with
  | none => exact e
  | some k =>
    show keyW _ _ (varW lz _ _) = _
    rw [e, k_key]
theorem pf_var {z : Str} {q : Int} (h : lz z = some q) : pfE lz ko (n + 1) (.tuple [.str "var", .str z]) = letD q := by
  cases ko with
  | none => exact v_var h
  | some k =>
    show keyW _ _ (varW lz _ _) = _
    rw [v_var h]
    exact k_let
theorem pf_cell {t v : Str} {x : PyData} : pfE lz ko (n + 1) (.tuple [.str "cell", .str t, x, .str v]) = .tuple [.str "cell", .str t, pfE lz ko n x, .str v] := by
  cases ko with
  | none => exact v_cell
  | some k =>
    show keyW _ _ (varW lz _ _) = _
    rw [v_cell, k_cell]
    rfl
theorem pf_op {o : Str} {x y : PyData} (h : o ∈ ops5) : pfE lz ko (n + 1) (.tuple [.str o, x, y]) = .tuple (.str o :: [x, y].map (pfE lz ko n)) := by
  have h2 : o ∈ opws := (show ∀ o, o ∈ ops5 → o ∈ opws by decide) o h
  cases ko with
  | none => exact v_op h2
  | some k =>
    show keyW _ _ (varW lz _ _) = _
    rw [v_op h2, k_op h]
    rfl
theorem pf_at {x y : PyData} : pfE lz ko (n + 1) (.tuple [.str "at", x, y]) = .tuple [.str "at", pfE lz ko n x, pfE lz none n y] := by
  cases ko with
  | none => exact v_op (by decide)
  | some k =>
    show keyW _ _ (varW lz _ _) = _
    rw [v_op (by decide), k_at]
    rfl
theorem pf_if {x y z : PyData} : pfE lz ko (n + 1) (.tuple [.str "if", x, y, z]) = .tuple (.str "if" :: [x, y, z].map (pfE lz ko n)) := by
  cases ko with
  | none => exact v_if
  | some k =>
    show keyW _ _ (varW lz _ _) = _
    rw [v_if, k_if]
    rfl
theorem pf_agg {o t : Str} {p : PyData} {vs ds : List PyData} (hn : 2 ≤ n) (h : (o, vs.length, ds.length) ∈ aggk) : pfE lz ko (n + 1) (.tuple (.str o :: .str t :: .tuple [] :: rowX t :: p :: (vs ++ ds))) = .tuple (([.str o, .str t, .tuple []] ++ (rowX t :: p :: vs).map (pfE lz none n)) ++ ds.map (pfE lz ko n)) := by
  have e1 : pfE lz none n (rowX t) = rowX t := v_row hn
  rw [List.map_cons, e1]
  cases ko with
  | none =>
    show varW lz _ _ = _
    rw [v_agg h, v_row hn]
    rfl
  | some k =>
    show keyW _ _ (varW lz _ _) = _
    rw [v_agg h, v_row hn, k_agg (by rw [List.length_map, List.length_map]; exact h), List.map_map]
    rfl
end
theorem Cx.pf {zs sc : List Str} {lz : Str → Option Int} {ko : Option Int} (hl : ∀ z, z ∈ sc → ∃ q, lz z = some q ∧ 0 ≤ q ∧ q ≤ 10000) (hk : ∀ k, ko = some k → -(10 ^ 18) ≤ k ∧ k ≤ 10 ^ 18) {b : Bool} {n : Nat} {x : PyData} (h : Cx zs sc b n x) : Cx ("+" :: zs) [] (if ko.isSome then false else b) n (pfE lz ko n x) := by
  cases ko with
  | none => exact h.varW hl
  | some k => exact (h.varW hl).keyW (hk k rfl).1 (hk k rfl).2
end L19

namespace L19
open PySem PySem.Spec PyProof.Rows L2 GR WX TX RZ
def koV : Option Int → V
  | none => .non
  | some k => .int k
theorem noSl_sub {o i : Expr} {pos : Pos} : NoSl (.Subscript o i pos) := fun _ _ => rfl
def kv4i : List (Key × V) := [(.inr "count", .int 5), (.inr "sum", .int 6), (.inr "most", .int 6), (.inr "first", .int 5)]
theorem kv4i_at {o : Str} {a b : Nat} (h : (o, a, b) ∈ aggk) : valV (mergeK [] kv4i) (.inr o) = some (.int ((5 + a : Nat) : Int)) := by
  simp only [aggk, List.mem_cons, List.not_mem_nil, or_false, Prod.mk.injEq] at h
  rcases h with ⟨rfl, rfl, _⟩ | ⟨rfl, rfl, _⟩ | ⟨rfl, rfl, _⟩ | ⟨rfl, rfl, _⟩
  · exact valV_pos rfl
  · exact (valV_neg (show ¬ ((.inr "count" : Key) = .inr "sum") by decide)).trans (valV_pos rfl)
  · exact (valV_neg (show ¬ ((.inr "count" : Key) = .inr "most") by decide)).trans ((valV_neg (show ¬ ((.inr "sum" : Key) = .inr "most") by decide)).trans (valV_pos rfl))
  · exact (valV_neg (show ¬ ((.inr "count" : Key) = .inr "first") by decide)).trans ((valV_neg (show ¬ ((.inr "sum" : Key) = .inr "first") by decide)).trans ((valV_neg (show ¬ ((.inr "most" : Key) = .inr "first") by decide)).trans (valV_pos rfl)))
structure PfC (H : Hp) (da : Addr) (ko : Option Int) (zs sc : List Str) (lz : Str → Option Int) : Prop where
  key : ∀ k, ko = some k → -(10 ^ 18) ≤ k ∧ k ≤ 10 ^ 18
  inz : ("in" : Str) ∈ zs
  nop : ("+" : Str) ∉ zs
  lets : ∃ kvs, H da = some (.dK kvs) ∧ ∀ z, z ∈ sc → ∃ q, lz z = some q ∧ 0 ≤ q ∧ q ≤ 10000 ∧ valV kvs (.inr z) = some (.int q)
theorem PfC.same {H H' : Hp} {da : Addr} {ko : Option Int} {zs sc : List Str} {lz : Str → Option Int} (h : PfC H da ko zs sc lz) (s : Same H H') : PfC H' da ko zs sc lz := by
  obtain ⟨kvs, h1, h2⟩ := h.lets
  exact ⟨h.key, h.inz, h.nop, kvs, s _ _ h1, h2⟩
theorem PfC.none {H : Hp} {da : Addr} {ko : Option Int} {zs sc : List Str} {lz : Str → Option Int} (h : PfC H da ko zs sc lz) : PfC H da none zs sc lz := ⟨fun k e => (nomatch e), h.inz, h.nop, h.lets⟩
theorem PfC.lz {H : Hp} {da : Addr} {ko : Option Int} {zs sc : List Str} {lz : Str → Option Int} (h : PfC H da ko zs sc lz) : ∀ z, z ∈ sc → ∃ q, lz z = some q ∧ 0 ≤ q ∧ q ≤ 10000 := fun z hz => by
  obtain ⟨kvs, h1, h2⟩ := h.lets
  obtain ⟨q, a, b, c, _⟩ := h2 z hz
  exact ⟨q, a, b, c⟩
theorem PfC.cx {H : Hp} {da : Addr} {ko : Option Int} {zs sc : List Str} {lz : Str → Option Int} (h : PfC H da ko zs sc lz) {b : Bool} {n : Nat} {x : PyData} (c : Cx zs sc b n x) : Cx ("+" :: zs) [] (if ko.isSome then false else b) n (pfE lz ko n x) := c.pf h.lz h.key
theorem PfC.flat {H : Hp} {da : Addr} {ko : Option Int} {zs sc : List Str} {lz : Str → Option Int} (h : PfC H da ko zs sc lz) {b : Bool} {n : Nat} {x : PyData} (c : Cx zs sc b n x) : flatD (pfE lz ko n x) = true := ((h.cx c).ex (List.mem_cons_of_mem _ h.inz)).flat
abbrev s_law_put_for : Stmt := topS 34
abbrev N_pf : List Str := ["_law_thing", "_law_lets", "_law_key", "_law_word", "_law_many", "_law_bound", "_law_one"]
abbrev ps_pf : List Str := ["_law_thing", "_law_lets", "_law_key"]
theorem sc_law_put_for : FnScope N_pf ps_pf (defScope s_law_put_for) := ⟨rfl, rfl, rfl, by decide +kernel, rfl, by decide +kernel, by decide +kernel⟩
def sp_pf (K : PySem.W.Frag) (n : Nat) : Sp := fun vs H Q _ => ∃ (v : V) (da : Addr) (ko : Option Int) (x : PyData) (zs sc : List Str) (b : Bool) (lz : Str → Option Int), vs = [v, .ref da, koV ko] ∧ Dp K H v x ∧ Cx zs sc b n x ∧ PfC H da ko zs sc lz ∧ ∀ H' v', Same H H' → Dp K H' v' (pfE lz ko n x) → Q v' H'
abbrev ops6 : List Str := ["+", "-", "*", "<", "=", "if"]
theorem Cx.ops {zs sc : List Str} {b : Bool} {n : Nat} {x : PyData} (h : Cx zs sc b (n + 1) x) : (∃ o rs, x = .tuple (.str o :: rs) ∧ o ∈ ops6 ∧ (∀ y, y ∈ rs → Cx zs sc b n y) ∧ rs ≠ [] ∧ rs.length ≤ 3 ∧ ∀ {lz : Str → Option Int} {ko : Option Int}, pfE lz ko (n + 1) (.tuple (.str o :: rs)) = .tuple (.str o :: rs.map (pfE lz ko n))) ∨ (∀ o rs, x = .tuple (.str o :: rs) → o ∉ ops6) := by
  cases h with
  | op _ _ o x y h1 h2 h3 =>
    refine .inl ⟨o, [x, y], rfl, (show ∀ o, o ∈ ops5 → o ∈ ops6 by decide) o h1, fun z hz => ?_, List.cons_ne_nil _ _, (show 2 ≤ 3 by decide), pf_op h1⟩
    simp only [List.mem_cons, List.not_mem_nil, or_false] at hz
    rcases hz with rfl | rfl
    · exact h2
    · exact h3
  | iff _ _ x y z h1 h2 h3 =>
    refine .inl ⟨"if", [x, y, z], rfl, by decide, fun u hu => ?_, List.cons_ne_nil _ _, Nat.le_refl _, pf_if⟩
    simp only [List.mem_cons, List.not_mem_nil, or_false] at hu
    rcases hu with rfl | rfl | rfl
    · exact h1
    · exact h2
    · exact h3
  | agg _ _ o t p xs vs ds hh h0 h1 h2 h3 h4 h5 h6 h7 =>
    refine .inr fun o' rs e => ?_
    cases e
    simp only [aggk, List.mem_cons, List.not_mem_nil, or_false, Prod.mk.injEq] at h1
    rcases h1 with ⟨rfl, _⟩ | ⟨rfl, _⟩ | ⟨rfl, _⟩ | ⟨rfl, _⟩ <;> decide
  | _ =>
    refine .inr fun o' rs e => ?_
    cases e
    decide
theorem cut_tail {v : V} {vs : List V} : cutV (v :: vs) (some 1) none = vs := by
  unfold cutV
  rw [HT.sIx_none, show HT.sIx (v :: vs).length 0 (some 1) = min 1 (v :: vs).length from HT.sIx_nat _ _ 1, List.length_cons, show min 1 (vs.length + 1) = 1 by omega, List.drop_succ_cons, List.drop_zero, show vs.length + 1 - 1 = vs.length by omega, List.take_length]
theorem cut_from {xs : List V} {a : Nat} (h : a ≤ xs.length) : cutV xs (some (a : Int)) none = xs.drop a := by
  unfold cutV
  rw [HT.sIx_none, HT.sIx_nat, show min a xs.length = a by omega]
  exact List.take_of_length_le (by rw [List.length_drop]; exact Nat.le_refl _)
theorem cut_to {xs : List V} {a : Nat} (h : a ≤ xs.length) : cutV xs none (some (a : Int)) = xs.take a := by
  unfold cutV
  rw [HT.sIx_none, HT.sIx_nat, show min a xs.length = a by omega, List.drop_zero, Nat.sub_zero]
section
variable {P : Program} {w : World} {K : PySem.W.Frag} {mg : Str → Option Value} {base : Heap}
theorem ok_pf_step {n : Nat} {f : Addr} {fd : FuncData} {k : Nat} (F : Fun K "_law_put_for" "_law_put_for" s_law_put_for f fd) (G : FnOk P w K mg base CX0 k f fd ps_pf (sp_pf K n)) (g : mg "_law_put_for" = some (.ref f)) (Kf : PySem.W.keepIn K (.ref f) = true) (b : Binds K fd ps_pf []) (mtuple : mg "tuple" = none) :
    FnOk P w K mg base CX0 (k + 1) f fd ps_pf (sp_pf K (n + 1)) := by
  have nd := sc_law_put_for.nd
  refine F.ok sc_law_put_for (fun vs H Q E h => ?_) (fun cdv A outer s H vs Q E hr h => ?_)
  · obtain ⟨v, da, ko, x, zs, sc, b, lz, rfl, _⟩ := h
    rfl
  obtain ⟨v, da, ko, x, zs, sc, bb, lz, rfl, hd, hc, C, q⟩ := h
  have hu1 := hu_of hr
  refine ⟨_, (pss_cons (ps_set (i := 3) nd rfl (.inl rfl) (pe_ix ix_tup (pv 0) pe_int (fun _ _ => rfl)))
      (pss_cons (ps_if (pt_cmpR op_eq (pv 3) pe_str (nomark _))
      (pss_one (ps_ret (pe_tup (pa_cons pe_str (pa_cons (pe_dget hu1 (pv 1) (pe_ix ix_tup (pv 0) pe_int (fun _ _ => rfl)) noSl_sub) pa_nil)))))
      pss_nil)
      (pss_cons (ps_if (pt_cmpR op_eq (pv 3) pe_str (nomark _))
      (pss_one (ps_ret (pe_ifExp (pt_cmpR op_isN (pv 2) pe_non (nomark _)) (pv 0) (pe_tup (pa_cons pe_str (pa_cons (pv 2) pa_nil))))))
      pss_nil)
      (pss_cons (ps_if (pt_cmpR op_eq (pv 3) pe_str (nomark _))
      (pss_one (ps_ret (pv 0)))
      pss_nil)
      (pss_cons (ps_if (pt_cmpR op_eq (pv 3) pe_str (nomark _))
      (pss_one (ps_ret (pe_tup (pa_cons pe_str (pa_cons (pe_ix ix_tup (pv 0) pe_int (fun _ _ => rfl)) (pa_cons (pe_call G hr (by rfl) g Kf b .nil pass0 (pa_cons (pe_ix ix_tup (pv 0) pe_int (fun _ _ => rfl)) (pa_cons (pv 1) (pa_cons (pv 2) pa_nil)))) (pa_cons (pe_ix ix_tup (pv 0) pe_int (fun _ _ => rfl)) pa_nil)))))))
      pss_nil)
      (pss_cons (ps_if (pt_cmpR op_eq (pv 3) pe_str (nomark _))
      (pss_one (ps_ret (pe_tup (pa_cons pe_str (pa_cons (pe_call G hr (by rfl) g Kf b .nil pass0 (pa_cons (pe_ix ix_tup (pv 0) pe_int (fun _ _ => rfl)) (pa_cons (pv 1) (pa_cons (pv 2) pa_nil)))) (pa_cons (pe_call G hr (by rfl) g Kf b .nil pass0 (pa_cons (pe_ix ix_tup (pv 0) pe_int (fun _ _ => rfl)) (pa_cons (pv 1) (pa_cons pe_non pa_nil)))) pa_nil))))))
      pss_nil)
      (pss_cons (ps_if (pt_cmpR op_notIn_seq (pv 3) (pe_tup (pa_cons pe_str (pa_cons pe_str (pa_cons pe_str (pa_cons pe_str pa_nil))))) (by rfl))
      (pss_one (ps_ret (pe_op op_catT (pe_tup (pa_cons (pv 3) pa_nil)) (pe_callTy call_tuple_of (by rfl) mtuple boot_tuple (pa_cons (pe_lc (own := [("_law_one", 6)]) (tt := tYes) (te := tCall (sp_pf K n) [] E0 (tCons (tVar 6) (tCons (tVar 1) (tCons (tVar 2) tNil)))) rfl nd (pi_tup (pe_slice L2.sl_tup (pv 0) (po_some pe_int) po_none)) (blkOk_by (N := N_pf) (sc := defScope s_law_put_for) (by decide +kernel)) (fun _ _ _ _ _ => (pg_name (i := 6) nd rfl (Or.inl rfl))) (fun _ _ _ _ _ => pts_nil) (fun _ _ _ _ _ => (pe_call G hr (by rfl) g Kf b .nil pass0 (pa_cons (pv 6) (pa_cons (pv 1) (pa_cons (pv 2) pa_nil)))))) pa_nil)))))
      pss_nil)
      (pss_cons (ps_set (i := 4) nd rfl (.inl rfl) (pe_dget hu1 (pe_disp (pps_cons pe_str pe_int (pps_cons pe_str pe_int (pps_cons pe_str pe_int (pps_cons pe_str pe_int pps_nil)))) (by decide) rfl (by simp) (by decide)) (pv 3) noSl_name))
      (pss_cons (ps_set (i := 5) nd rfl (.inl rfl) (pe_callTy call_tuple_of (by rfl) mtuple boot_tuple (pa_cons (pe_lc (own := [("_law_one", 6)]) (tt := tYes) (te := tCall (sp_pf K n) [] E0 (tCons (tVar 6) (tCons (tVar 1) (tCons (tC .non) tNil)))) rfl nd (pi_tup (pe_slice L2.sl_tup (pv 0) (po_some pe_int) (po_some (pv 4)))) (blkOk_by (N := N_pf) (sc := defScope s_law_put_for) (by decide +kernel)) (fun _ _ _ _ _ => (pg_name (i := 6) nd rfl (Or.inl rfl))) (fun _ _ _ _ _ => pts_nil) (fun _ _ _ _ _ => (pe_call G hr (by rfl) g Kf b .nil pass0 (pa_cons (pv 6) (pa_cons (pv 1) (pa_cons pe_non pa_nil)))))) pa_nil)))
      (pss_one (ps_ret (pe_op op_catT (pe_op op_catT (pe_slice L2.sl_tup (pv 0) po_none (po_some pe_int)) (pv 5)) (pe_callTy call_tuple_of (by rfl) mtuple boot_tuple (pa_cons (pe_lc (own := [("_law_one", 6)]) (tt := tYes) (te := tCall (sp_pf K n) [] E0 (tCons (tVar 6) (tCons (tVar 1) (tCons (tVar 2) tNil)))) rfl nd (pi_tup (pe_slice L2.sl_tup (pv 0) (po_some (pv 4)) po_none)) (blkOk_by (N := N_pf) (sc := defScope s_law_put_for) (by decide +kernel)) (fun _ _ _ _ _ => (pg_name (i := 6) nd rfl (Or.inl rfl))) (fun _ _ _ _ _ => pts_nil) (fun _ _ _ _ _ => (pe_call G hr (by rfl) g Kf b .nil pass0 (pa_cons (pv 6) (pa_cons (pv 1) (pa_cons (pv 2) pa_nil)))))) pa_nil)))))))))))))), ?_⟩
  -- the forms
  have hcx := hc
  have same0 : Same H H := fun _ _ e => e
  have fpf : ∀ {y : PyData}, Cx zs sc bb n y → flatD (pfE lz ko n y) = true := fun c => C.flat c
  rcases hc.ops with ⟨o, rs, rfl, ho, hrs, hr0, hr3, hpf⟩ | hno
  · -- an operation, an if
    have hfl := (hcx.ex C.inz).flat
    rw [flatD, flatDs, Bool.and_eq_true] at hfl
    cases hd with
    | tup hS hB =>
    cases hB with
    | cons hw hB =>
    cases hw
    rename_i a vs1
    obtain ⟨o1, o2, o3, o4, o5, o6⟩ := (show ∀ o, o ∈ ops6 → o ≠ "var" ∧ o ≠ "key" ∧ o ≠ "int" ∧ o ≠ "cell" ∧ o ≠ "at" ∧ inV (.str o) [.str "count", .str "sum", .str "most", .str "first"] = false by decide) o ho
    have lB := dpAll_len hB
    refine ⟨.ref a, rfl, a, _, 0, .str o, rfl, rfl, hS, at0, .str o, rfl, rfl, _, rfl, no_w o1 ⟨.str o, rfl, rfl, _, rfl, no_w o2 ⟨.str o, rfl, rfl, _, rfl, no_w o3 ⟨.str o, rfl, rfl, _, rfl, no_w o4 ⟨.str o, rfl, rfl, _, rfl, no_w o5 ⟨.str o, rfl, h1000 (show 4 ≤ 1000 by decide), fun pA nA => ⟨pA, _, rfl, .inr (.inl (.inl upd_same)), rfl, rfl, _, rfl, ite2 (fun _ => ?_) (fun e => absurd (by rw [o6]; rfl) e)⟩⟩⟩⟩⟩⟩⟩
    have sA := same_upd (o := .tup [.str "count", .str "sum", .str "most", .str "first"]) nA
    refine ⟨.str o, rfl, h1000 (show 1 ≤ 1000 by decide), fun p1 n1 => ?_⟩
    have s1 := sA.trans (same_upd (o := .tup [.str o]) n1)
    have hp1 : upd (upd H pA (.tup [.str "count", .str "sum", .str "most", .str "first"])) p1 (.tup [.str o]) p1 = some (.tup [.str o]) := upd_same
    revert s1 hp1
    generalize upd (upd H pA (.tup [.str "count", .str "sum", .str "most", .str "first"])) p1 (.tup [.str o]) = H1
    intro s1 hp1
    refine ⟨.ref a, rfl, 1, rfl, a, _, rfl, (KeepT.of s1).seqt hS, ?_, fun c nc => ?_⟩
    · rw [List.length_cons]
      rintro ⟨e, _⟩
      have : HT.sIx (vs1.length + 1) 0 (some 1) = min 1 (vs1.length + 1) := HT.sIx_nat _ _ 1
      rw [this] at e
      omega
    rw [cut_tail]
    have s2 := s1.trans (same_upd (o := .tup vs1) nc)
    have hc2 : upd H1 c (.tup vs1) c = some (.tup vs1) := upd_same
    have hp2 := same_upd (o := .tup vs1) nc _ _ hp1
    revert s2 hc2 hp2
    generalize upd H1 c (.tup vs1) = H2
    intro s2 hc2 hp2
    refine ⟨c, rfl, ⟨_, .inl (.inl hc2)⟩, fun D nD => ?_⟩
    refine map_walk (F := pfE lz ko n) (fun d hd' => fpf (hrs d hd')) (.inl (.inl hc2)) (dp_keepAll (KeepT.of s2) _ _ hfl.2 hB) hfl.2 nD (by omega) (fun u d H' acc Nx hmem sm hu hD hsz hN => ?_) (fun H' acc sm hD hacc => ?_)
    · exact ⟨rfl, yes_then ⟨u, rfl, .ref da, rfl, koV ko, rfl, u, da, ko, d, zs, sc, bb, lz, rfl, hu, hrs d hmem, C.same (s2.trans sm), fun H'' v' s3 hr3 => ⟨acc, s3 _ _ hD, hsz, hN H'' v' s3 hr3⟩⟩⟩
    · refine ⟨D, acc, rfl, .inl ⟨.inl (.inl hD), fun t nt => ?_⟩⟩
      have st := same_upd (o := .tup acc) nt
      have lacc := dpAll_len hacc
      rw [List.length_map] at lacc
      have fmap : flatDs (rs.map (pfE lz ko n)) = true := flatDs_of fun e he => by
        obtain ⟨e', he', rfl⟩ := List.mem_map.mp he
        exact fpf (hrs e' he')
      have hne : acc ≠ [] := fun z => hr0 (by
        rw [z] at lacc
        exact List.eq_nil_of_length_eq_zero lacc.symm)
      refine ⟨p1, t, [.str o], acc, rfl, rfl, .inl (.inl (st _ _ (sm _ _ hp2))), .inl (.inl upd_same), List.cons_ne_nil _ _, h1000 (by show 1 + acc.length ≤ 1000; omega), fun e => absurd e hne, fun _ p np => ?_⟩
      refine q _ _ (((s2.trans sm).trans st).trans (same_upd np)) ?_
      rw [hpf]
      refine new_tup (dpAll_append (.cons (.str o) .nil) (dp_keepAll (KeepT.of st) _ _ fmap hacc)) ?_ np
      show flatDs (.str o :: rs.map (pfE lz ko n)) = true
      rw [flatDs, fmap]
      rfl
  have hd0 := hd
  cases hc with
  | int _ _ i h1 h2 =>
    cases hd with
    | tup hS hB =>
    cases hB with
    | cons hw hB =>
    cases hw
    rename_i a vs1
    refine ⟨.ref a, rfl, a, _, 0, .str "int", rfl, rfl, hS, at0, .str "int", rfl, rfl, _, rfl, no_w (by decide) ⟨.str "int", rfl, rfl, _, rfl, no_w (by decide) ⟨.str "int", rfl, rfl, _, rfl, yes_w rfl ⟨.ref a, rfl, q H _ same0 ?_⟩⟩⟩⟩
    rw [pf_int]
    exact hd0
  | let_ _ _ i g9 h1 h2 => exact absurd g9 C.nop
  | key n =>
    cases hd with
    | tup hS hB =>
    cases hB with
    | cons hw hB =>
    cases hw
    rename_i a vs1
    rw [pf_key] at q
    refine ⟨.ref a, rfl, a, _, 0, .str "key", rfl, rfl, hS, at0, .str "key", rfl, rfl, _, rfl, no_w (by decide) ⟨.str "key", rfl, rfl, _, rfl, yes_w rfl ⟨koV ko, rfl, rfl, _, rfl, ?_⟩⟩⟩
    cases ko with
    | none => exact ite2 (fun _ => ⟨.ref a, rfl, q H _ same0 hd0⟩) (fun e => absurd rfl e)
    | some kk => exact ite2 (fun e => absurd e (by simp [koV])) (fun _ => ⟨.int kk, rfl, h1000 (show 2 ≤ 1000 by decide), fun p np => q _ _ (same_upd np) (new_tup (.cons (.str "int") (.cons (.int kk) .nil)) rfl np)⟩)
  | var _ _ z h1 =>
    cases hd with
    | tup hS hB =>
    cases hB with
    | cons hw hB =>
    cases hw
    cases hB with
    | cons hz hB =>
    cases hz
    cases hB
    rename_i a
    obtain ⟨kvs, hda, hl⟩ := C.lets
    obtain ⟨qq, e1, e2, e3, e4⟩ := hl z h1
    rw [pf_var e1] at q
    exact ⟨.ref a, rfl, a, _, 0, .str "var", rfl, rfl, hS, at0, .str "var", rfl, rfl, _, rfl, yes_w rfl ⟨.ref da, rfl, .ref a, rfl, a, _, 1, .str z, rfl, rfl, hS, at1, da, .int qq, rfl, .inl ⟨kvs, .inr z, .inl hda, rfl, e4.symm⟩, h1000 (show 2 ≤ 1000 by decide), fun p np => q _ _ (same_upd np) (new_tup (.cons (.str "let") (.cons (.int qq) .nil)) rfl np)⟩⟩
  | cell _ _ t u x h1 h2 h3 =>
    cases hd with
    | tup hS hB =>
    cases hB with
    | cons hw hB =>
    cases hw
    cases hB with
    | cons ht hB =>
    cases ht
    cases hB with
    | cons hx hB =>
    cases hB with
    | cons hu hB =>
    cases hu
    cases hB
    rename_i a v2
    rw [pf_cell] at q
    refine ⟨.ref a, rfl, a, _, 0, .str "cell", rfl, rfl, hS, at0, .str "cell", rfl, rfl, _, rfl, no_w (by decide) ⟨.str "cell", rfl, rfl, _, rfl, no_w (by decide) ⟨.str "cell", rfl, rfl, _, rfl, no_w (by decide) ⟨.str "cell", rfl, rfl, _, rfl, yes_w rfl ?_⟩⟩⟩⟩
    refine ⟨.ref a, rfl, a, _, 1, .str t, rfl, rfl, hS, at1, .ref a, rfl, a, _, 2, v2, rfl, rfl, hS, atI_nat rfl, .ref da, rfl, koV ko, rfl, v2, da, ko, x, zs, sc, bb, lz, rfl, hx, h3, C, fun H1 v' s1 hr1 => ?_⟩
    refine ⟨.ref a, rfl, a, _, 3, .str u, rfl, rfl, (KeepT.of s1).seqt hS, atI_nat rfl, h1000 (show 4 ≤ 1000 by decide), fun p np => q _ _ (s1.trans (same_upd np)) (new_tup (.cons (.str _) (.cons (.str t) (.cons hr1 (.cons (.str u) .nil)))) ?_ np)⟩
    simp only [flatDs, flatD, fpf h3, Bool.and_self]
  | op _ _ o x y h1 h2 h3 => exact absurd ((show ∀ o, o ∈ ops5 → o ∈ ops6 by decide) o h1) (hno o [x, y] rfl)
  | iff _ _ x y z h1 h2 h3 => exact absurd (by decide) (hno "if" [x, y, z] rfl)
  | at_ _ _ x y h2 h3 =>
    cases hd with
    | tup hS hB =>
    cases hB with
    | cons hw hB =>
    cases hw
    cases hB with
    | cons hx hB =>
    cases hB with
    | cons hy hB =>
    cases hB
    rename_i a v1 v2
    rw [pf_at] at q
    have fy := (h3.ex C.inz).flat
    have f1 := C.flat h2
    have f2 := C.none.flat h3
    refine ⟨.ref a, rfl, a, _, 0, .str "at", rfl, rfl, hS, at0, .str "at", rfl, rfl, _, rfl, no_w (by decide) ⟨.str "at", rfl, rfl, _, rfl, no_w (by decide) ⟨.str "at", rfl, rfl, _, rfl, no_w (by decide) ⟨.str "at", rfl, rfl, _, rfl, no_w (by decide) ⟨.str "at", rfl, rfl, _, rfl, yes_w rfl ?_⟩⟩⟩⟩⟩
    refine ⟨.ref a, rfl, a, _, 1, v1, rfl, rfl, hS, at1, .ref da, rfl, koV ko, rfl, v1, da, ko, x, zs, sc, bb, lz, rfl, hx, h2, C, fun H1 v' s1 hr1 => ?_⟩
    refine ⟨.ref a, rfl, a, _, 2, v2, rfl, rfl, (KeepT.of s1).seqt hS, atI_nat rfl, .ref da, rfl, v2, da, none, y, zs, sc, true, lz, rfl, dp_keep (KeepT.of s1) _ _ fy hy, h3, C.none.same s1, fun H2 v'' s2 hr2 => ⟨h1000 (show 3 ≤ 1000 by decide), fun p np => ?_⟩⟩
    refine q _ _ ((s1.trans s2).trans (same_upd np)) (new_tup (.cons (.str _) (.cons (dp_keep (KeepT.of s2) _ _ f1 hr1) (.cons hr2 .nil))) ?_ np)
    simp only [flatDs, flatD, f1, f2, Bool.and_self]
  | agg _ _ o t p xs us ds hh h0 h1 h2 h3 h4 h5 h6 h7 =>
    obtain rfl : xs = [] := List.eq_nil_of_length_eq_zero (Nat.le_zero.mp h3)
    have hfl := (hcx.ex C.inz).flat
    cases hd with
    | tup hS hB =>
    rename_i a vals
    have lB := dpAll_len hB
    rw [List.length_cons, List.length_cons, List.length_cons, List.length_cons, List.length_cons, List.length_append] at lB
    rw [flatD] at hfl
    obtain ⟨w0, hw0⟩ : ∃ w0, vals[0]? = some w0 := ⟨vals[0]'(by omega), List.getElem?_eq_getElem _⟩
    obtain ⟨dw, hdw, hw0d⟩ := dpAll_at hB hw0
    cases hdw
    cases hw0d
    obtain ⟨o1, o2, o3, o4, o5, o6, o7⟩ := (show ∀ p, p ∈ aggk → p.1 ≠ "var" ∧ p.1 ≠ "key" ∧ p.1 ≠ "int" ∧ p.1 ≠ "cell" ∧ p.1 ≠ "at" ∧ inV (.str p.1) [.str "count", .str "sum", .str "most", .str "first"] = true ∧ p.2.1 + p.2.2 ≤ 2 by decide) _ h1
    have o1 : o ≠ "var" := o1
    have o2 : o ≠ "key" := o2
    have o3 : o ≠ "int" := o3
    have o4 : o ≠ "cell" := o4
    have o5 : o ≠ "at" := o5
    have o6 : inV (.str o) [.str "count", .str "sum", .str "most", .str "first"] = true := o6
    have o7 : us.length + ds.length ≤ 2 := o7
    have hval := kv4i_at h1
    refine ⟨.ref a, rfl, a, _, 0, .str o, rfl, rfl, hS, atI_nat hw0, .str o, rfl, rfl, _, rfl, no_w o1 ⟨.str o, rfl, rfl, _, rfl, no_w o2 ⟨.str o, rfl, rfl, _, rfl, no_w o3 ⟨.str o, rfl, rfl, _, rfl, no_w o4 ⟨.str o, rfl, rfl, _, rfl, no_w o5 ⟨.str o, rfl, h1000 (show 4 ≤ 1000 by decide), fun pA nA => ⟨pA, _, rfl, .inr (.inl (.inl upd_same)), rfl, rfl, _, rfl, ite2 (fun e => absurd e (by rw [o6]; decide)) (fun _ => ?_)⟩⟩⟩⟩⟩⟩⟩
    have sA := same_upd (o := .tup [.str "count", .str "sum", .str "most", .str "first"]) nA
    refine fun pd npd => ⟨upd_same, kv4i, rfl, by decide, .str o, rfl, pd, .int ((5 + us.length : Nat) : Int), rfl, by rw [← hval]; exact DGet.k (k := .inr o) upd_same, ?_⟩
    have s1 : Same H (upd (upd (upd H pA (.tup [.str "count", .str "sum", .str "most", .str "first"])) pd (.dK [])) pd (.dK (mergeK [] kv4i))) := fun b ob e => by
      have e1 := sA _ _ e
      rw [upd_ne (ne_of_none e1 npd), upd_ne (ne_of_none e1 npd)]
      exact e1
    revert s1
    generalize upd (upd (upd H pA (.tup [.str "count", .str "sum", .str "most", .str "first"])) pd (.dK [])) pd (.dK (mergeK [] kv4i)) = H1
    intro s1
    generalize hmN : 5 + us.length = mN at hval ⊢
    -- what a key is bound in
    refine ⟨.ref a, rfl, 3, rfl, .int (mN : Int), rfl, (mN : Int), rfl, a, vals, rfl, (KeepT.of s1).seqt hS, ?_, fun c nc => ?_⟩
    · rintro ⟨e, _⟩
      have : HT.sIx vals.length 0 (some 3) = min 3 vals.length := HT.sIx_nat _ _ 3
      rw [this] at e
      omega
    have hcut : cutV vals (some 3) (some (mN : Int)) = (vals.drop 3).take (mN - 3) := cut_nat (a := 3) (b := mN) (by omega) (by omega)
    rw [hcut]
    have hB1 : DpAll K H ((vals.drop 3).take (mN - 3)) (rowX t :: p :: us) := by
      have := dpAll_take (mN - 3) (dpAll_drop 3 hB)
      rw [List.drop_succ_cons, List.drop_succ_cons, List.drop_succ_cons, List.drop_zero, show mN - 3 = us.length + 1 + 1 by omega, List.take_succ_cons, List.take_succ_cons, List.take_left] at this
      rw [show mN - 3 = us.length + 1 + 1 by omega]
      exact this
    have hB3 : DpAll K H (vals.take 3) [.str o, .str t, .tuple []] := dpAll_take 3 hB
    have hB4 : DpAll K H (vals.drop mN) ds := by
      have := dpAll_drop mN hB
      rw [show mN = us.length + 1 + 1 + 1 + 1 + 1 by omega, List.drop_succ_cons, List.drop_succ_cons, List.drop_succ_cons, List.drop_succ_cons, List.drop_succ_cons, List.drop_left] at this
      rw [show mN = us.length + 1 + 1 + 1 + 1 + 1 by omega]
      exact this
    have cB : ∀ y, y ∈ rowX t :: p :: us → Cx zs sc true n y := fun y hy => by
      rcases List.mem_cons.mp hy with rfl | hy
      · obtain ⟨k, rfl⟩ : ∃ k, n = k + 2 := ⟨n - 2, by omega⟩
        exact .cell true (k + 1) t "in" _ h2 ⟨C.inz, by decide⟩ (.key k)
      rcases List.mem_cons.mp hy with rfl | hy
      · exact h5
      · exact h6 y hy
    have fB : flatDs (rowX t :: p :: us) = true := flatDs_of fun y hy => ((cB y hy).ex C.inz).flat
    have fD : flatDs ds = true := flatDs_of fun y hy => ((h7 y hy).ex C.inz).flat
    have f3 : flatDs [.str o, .str t, .tuple []] = true := rfl
    have fBm : flatDs ((rowX t :: p :: us).map (pfE lz none n)) = true := flatDs_of fun e he => by
      obtain ⟨e', he', rfl⟩ := List.mem_map.mp he
      exact C.none.flat (cB e' he')
    have fDm : flatDs (ds.map (pfE lz ko n)) = true := flatDs_of fun e he => by
      obtain ⟨e', he', rfl⟩ := List.mem_map.mp he
      exact fpf (h7 e' he')
    have s2 := s1.trans (same_upd (o := .tup ((vals.drop 3).take (mN - 3))) nc)
    have hc2 : upd H1 c (.tup ((vals.drop 3).take (mN - 3))) c = some (.tup ((vals.drop 3).take (mN - 3))) := upd_same
    revert s2 hc2
    generalize upd H1 c (.tup ((vals.drop 3).take (mN - 3))) = H2
    intro s2 hc2
    refine ⟨c, rfl, ⟨_, .inl (.inl hc2)⟩, fun D nD => ?_⟩
    have lB1 := dpAll_len hB1
    rw [List.length_cons, List.length_cons] at lB1
    refine map_walk (F := pfE lz none n) (fun d hd' => C.none.flat (cB d hd')) (.inl (.inl hc2)) (dp_keepAll (KeepT.of s2) _ _ fB hB1) fB nD (by omega) (fun u d H' acc Nx hmem sm hu hD hsz hN => ?_) (fun H3 accB sm hD hacc => ?_)
    · exact ⟨rfl, yes_then ⟨u, rfl, .ref da, rfl, u, da, none, d, zs, sc, true, lz, rfl, hu, cB d hmem, C.none.same (s2.trans sm), fun H'' v' s3 hr3 => ⟨acc, s3 _ _ hD, hsz, hN H'' v' s3 hr3⟩⟩⟩
    refine ⟨D, accB, rfl, .inl ⟨.inl (.inl hD), fun tB nB => ?_⟩⟩
    have s3 := (s2.trans sm).trans (same_upd (o := .tup accB) nB)
    have htB : upd H3 tB (.tup accB) tB = some (.tup accB) := upd_same
    have hB3a := dp_keepAll (KeepT.of (same_upd (o := .tup accB) nB)) _ _ fBm hacc
    have laB := dpAll_len hacc
    rw [List.length_map, List.length_cons, List.length_cons] at laB
    revert s3 htB hB3a
    generalize upd H3 tB (.tup accB) = H4
    intro s3 htB hB3a
    -- the first three
    refine ⟨.ref a, rfl, 3, rfl, a, vals, rfl, (KeepT.of s3).seqt hS, ?_, fun c3 nc3 => ?_⟩
    · rintro ⟨_, e⟩
      have : HT.sIx vals.length vals.length (some 3) = min 3 vals.length := HT.sIx_nat _ _ 3
      rw [this] at e
      omega
    have hcut3 : cutV vals none (some 3) = vals.take 3 := cut_to (a := 3) (by omega)
    rw [hcut3]
    have s4 := same_upd (o := .tup (vals.take 3)) nc3
    have hc3 : upd H4 c3 (.tup (vals.take 3)) c3 = some (.tup (vals.take 3)) := upd_same
    have l3 : (vals.take 3).length = 3 := by rw [List.length_take]; omega
    refine ⟨.ref tB, rfl, c3, tB, vals.take 3, accB, rfl, rfl, .inl (.inl hc3), .inl (.inl (s4 _ _ htB)), (fun z => by rw [z] at l3; cases l3), h1000 (by omega), (fun e => absurd e (fun z => by rw [z] at laB; simp at laB)), fun _ pc npc => ?_⟩
    have s5 := (s3.trans s4).trans (same_upd (o := .tup (vals.take 3 ++ accB)) npc)
    have hpc : upd (upd H4 c3 (.tup (vals.take 3))) pc (.tup (vals.take 3 ++ accB)) pc = some (.tup (vals.take 3 ++ accB)) := upd_same
    have hPd : DpAll K (upd (upd H4 c3 (.tup (vals.take 3))) pc (.tup (vals.take 3 ++ accB))) (vals.take 3 ++ accB) ([.str o, .str t, .tuple []] ++ (rowX t :: p :: us).map (pfE lz none n)) :=
      dpAll_append (dp_keepAll (KeepT.of s5) _ _ f3 hB3) (dp_keepAll (KeepT.of (s4.trans (same_upd npc))) _ _ fBm hB3a)
    revert s5 hpc hPd
    generalize upd (upd H4 c3 (.tup (vals.take 3))) pc (.tup (vals.take 3 ++ accB)) = H5
    intro s5 hpc hPd
    -- the others
    refine ⟨.ref a, rfl, .int (mN : Int), rfl, (mN : Int), rfl, a, vals, rfl, (KeepT.of s5).seqt hS, ?_, fun c4 nc4 => ?_⟩
    · rintro ⟨e, _⟩
      rw [HT.sIx_nat] at e
      omega
    rw [cut_from (show mN ≤ vals.length by omega)]
    have s6 := same_upd (o := .tup (vals.drop mN)) nc4
    have hc4 : upd H5 c4 (.tup (vals.drop mN)) c4 = some (.tup (vals.drop mN)) := upd_same
    have hpc6 := s6 _ _ hpc
    have s56 := s5.trans s6
    revert s6 hc4 hpc6 s56
    generalize upd H5 c4 (.tup (vals.drop mN)) = H6
    intro s6 hc4 hpc6 s56
    refine ⟨c4, rfl, ⟨_, .inl (.inl hc4)⟩, fun D2 nD2 => ?_⟩
    have lB4 := dpAll_len hB4
    refine map_walk (F := pfE lz ko n) (fun d hd' => fpf (h7 d hd')) (.inl (.inl hc4)) (dp_keepAll (KeepT.of s56) _ _ fD hB4) fD nD2 (by omega) (fun u d H' acc Nx hmem sm2 hu hD hsz hN => ?_) (fun H7 acc sm2 hD2 hacc2 => ?_)
    · exact ⟨rfl, yes_then ⟨u, rfl, .ref da, rfl, koV ko, rfl, u, da, ko, d, zs, sc, bb, lz, rfl, hu, h7 d hmem, C.same (s56.trans sm2), fun H'' v' s3 hr3 => ⟨acc, s3 _ _ hD, hsz, hN H'' v' s3 hr3⟩⟩⟩
    refine ⟨D2, acc, rfl, .inl ⟨.inl (.inl hD2), fun t2 nt2 => ?_⟩⟩
    have s7 := same_upd (o := .tup acc) nt2
    have la2 := dpAll_len hacc2
    rw [List.length_map] at la2
    have sT := (s56.trans sm2).trans s7
    have hpc7 := s7 _ _ (sm2 _ _ hpc6)
    have fall : flatDs ([.str o, .str t, .tuple []] ++ (rowX t :: p :: us).map (pfE lz none n)) = true := flatDs_append f3 fBm
    have hP7 := dp_keepAll (KeepT.of ((s6.trans sm2).trans s7)) _ _ fall hPd
    have hq : pfE lz ko (n + 1) (.tuple (.str o :: .str t :: .tuple [] :: rowX t :: p :: (us ++ ds))) = .tuple (([.str o, .str t, .tuple []] ++ (rowX t :: p :: us).map (pfE lz none n)) ++ ds.map (pfE lz ko n)) := pf_agg h0 h1
    rw [hq] at q
    refine ⟨pc, t2, vals.take 3 ++ accB, acc, rfl, rfl, .inl (.inl hpc7), .inl (.inl upd_same), (fun z => by have := congrArg List.length z; rw [List.length_append, l3] at this; simp at this), h1000 (by rw [List.length_append]; omega), fun e => ?_, fun _ pf npf => ?_⟩
    · have hds : ds = [] := by
        rw [e] at la2
        exact List.eq_nil_of_length_eq_zero la2.symm
      rw [hds, List.map_nil, List.append_nil] at q
      exact q _ _ sT (.tup (.inl (.inl hpc7)) hP7)
    · exact q _ _ (sT.trans (same_upd npf)) (new_tup (dpAll_append hP7 (dp_keepAll (KeepT.of s7) _ _ fDm hacc2)) (flatDs_append fall fDm) npf)
end
end L19

namespace L19
open PySem PySem.Spec PyProof.Rows L2 GR
section
variable {P : Program} {w : World} {K : PySem.W.Frag} {mg : Str → Option Value} {base : Heap}
abbrev s_statement_at : Stmt := topS 17
abbrev N_sat : List Str := ["log", "position", "place", "statement"]
theorem sc_statement_at : FnScope N_sat ["log", "position"] (defScope s_statement_at) := ⟨rfl, rfl, rfl, by decide +kernel, rfl, by decide +kernel, by decide +kernel⟩
def sp_sat (K : PySem.W.Frag) : Sp := fun vs H Q _ => ∃ (p : Addr) (n : Int) (ms : List Int) (es : List En), vs = [.ref p, .int n] ∧ Lg K H p ms es ∧ Q (stAt es n) H
theorem ok_statement_at {f : Addr} {fd : FuncData} {k : Nat} (F : Fun K "statement_at" "statement_at" s_statement_at f fd) : FnOk P w K mg base CX0 (k + 1) f fd ["log", "position"] (sp_sat K) := by
  have nd := sc_statement_at.nd
  refine F.ok sc_statement_at (fun vs H Q E h => ?_) (fun cdv A outer s H vs Q E hr h => ?_)
  · obtain ⟨p, n, ms, es, rfl, _⟩ := h
    rfl
  obtain ⟨p, n, ms, es, rfl, ⟨mp, ep, rs, h1, h2, h3, h4⟩, q⟩ := h
  refine ⟨_, (pss_cons (ps_for PassesOwn.never rfl (pi_tup (pe_ix ix_tup (pv 0) pe_int (fun _ _ => rfl))) (pg_tup rfl (pgs_cons (pg_name (i := 2) nd rfl (Or.inl rfl)) (pgs_cons (pg_name (i := 3) nd rfl (Or.inl rfl)) pgs_nil)))
      (pss_one (ps_if (pt_cmpR op_eq (pv 2) (pv 1) (nomark _))
        (pss_one (ps_ret (pv 3)))
        pss_nil)))
      (pss_one (ps_ret pe_non))), ?_⟩
  refine ⟨.ref p, rfl, p, _, 1, .ref ep, rfl, rfl, .inl (.inl h1), rfl, ep, rfl, ⟨_, .inl h3⟩, ?_⟩
  have hl := ens_len h4
  refine for_tup (xs := rs.map V.ref) (fun i σ H' => H' = H ∧ ∃ y2 y3, σ = [some (.ref p), some (.int n), y2, y3] ∧ stAt es n = stAt (es.drop i) n) ?_ ?_ ?_ ?_
  · exact ⟨rfl, none, none, rfl, rfl⟩
  · rintro i σ H' _ ⟨rfl, _⟩
    exact .inl h3
  · rintro i x σ H' hx ⟨rfl, y2, y3, rfl, hst⟩
    rw [List.getElem?_map] at hx
    obtain ⟨r, hr', rfl⟩ := Option.map_eq_some_iff.mp hx
    obtain ⟨e, he, h5⟩ := ens_at h4 hr'
    rw [drop_at he] at hst
    refine ⟨r, _, rfl, .inl (.inl h5.1), rfl, _, _, rfl, _, _, rfl, rfl, ?_⟩
    refine ⟨.int e.1, rfl, .int n, rfl, rfl, _, rfl, ?_⟩
    rw [dec_int]
    rw [stAt] at hst
    by_cases hc : e.1 = n
    · rw [if_pos hc] at hst
      rw [hc, beq_self_eq_true]
      refine iteT ⟨e.2.1, rfl, ?_⟩
      rw [← hst]
      exact q
    · rw [if_neg hc] at hst
      rw [show (e.1 == n) = false from beq_eq_false_iff_ne.mpr hc]
      exact iteF ⟨rfl, _, _, rfl, hst⟩
  · rintro σ H' ⟨rfl, y2, y3, rfl, hst⟩
    rw [List.length_map, hl, List.drop_length] at hst
    show Q .non H'
    have e : stAt es n = .non := hst
    rw [← e]
    exact q
end
/-! ### lets -/
def letsOf (lo hi : Int) : List En → List (Key × V)
  | [] => []
  | e :: es => if lo ≤ e.1 ∧ e.1 < hi then (match letNm e.2.2 with
    | some z => (.inr z, .int e.1) :: letsOf lo hi es
    | none => letsOf lo hi es) else letsOf lo hi es
theorem letNm_head {x : PyData} {z : Str} (h : letNm x = some z) : isLet x = true := by
  unfold letNm at h
  split at h
  · rename_i w z' r
    split at h
    · rename_i hw
      exact isLet_t hw
    · cases h
  · cases h
theorem sv_lets {K : PySem.W.Frag} {H : Hp} {v : V} {x : PyData} (h : SV K H v x) : ∃ (p : Addr) (w : Str) (v1 : V) (vs : List V), v = .ref p ∧ H p = some (.tup (.str w :: v1 :: vs)) ∧
    ((w = "let" ∧ ∃ z, v1 = .str z ∧ Nm z ∧ letNm x = some z) ∨ (w ≠ "let" ∧ letNm x = none)) := by
  obtain ⟨p, w, v1, vs, rfl, h1, h2, _, _, h5, h6⟩ := h
  refine ⟨p, w, v1, vs, rfl, h1, ?_⟩
  have no : isLet x = false → letNm x = none := fun e => by
    cases hx : letNm x with
    | none => rfl
    | some z =>
      rw [letNm_head hx] at e
      cases e
  rcases h2 with ⟨rfl, il, _, z, e, rfl, hz, rfl⟩ | ⟨hw, il, _⟩ | ⟨hw, il, _⟩
  · obtain ⟨z', hz'⟩ := h6 il
    obtain ⟨p', e', q1, q2⟩ := h5 z' hz'
    cases q1
    rw [h1] at q2
    have q3 : V.str z = V.str z' := (List.cons.inj (List.cons.inj (HO.tup.inj (Option.some.inj q2))).2).1
    exact .inl ⟨rfl, z, rfl, hz, by rw [hz', V.str.inj q3]⟩
  · exact .inr ⟨by rcases hw with rfl | rfl <;> decide, no il⟩
  · exact .inr ⟨by rcases hw with rfl | rfl <;> decide, no il⟩
theorem lets_append (lo hi : Int) : ∀ (a b : List En), letsOf lo hi (a ++ b) = letsOf lo hi a ++ letsOf lo hi b
  | [], b => rfl
  | e :: a, b => by
    rw [List.cons_append, letsOf, letsOf, lets_append lo hi a b]
    split
    · split <;> rfl
    · rfl
theorem lets_len (lo hi : Int) : ∀ (a : List En), (letsOf lo hi a).length ≤ a.length
  | [] => Nat.le_refl _
  | e :: a => by
    have := lets_len lo hi a
    rw [letsOf, List.length_cons]
    split
    · split
      · rw [List.length_cons]; omega
      · omega
    · omega
theorem merge_snoc (l : List (Key × V)) (x : Key × V) : mergeK [] (l ++ [x]) = putK (mergeK [] l) x.1 x.2 := by
  unfold mergeK
  rw [List.foldl_append]
  rfl
theorem merge_len (l : List (Key × V)) : (mergeK [] l).length ≤ l.length := by
  have := length_mergeK l []
  simpa using this
/-- before the entry at i there is no other up to its place -/
theorem lets_cut {lo hi : Int} {es : List En} (ha : (es.map (·.1)).Pairwise (· < ·)) {i : Nat} {e : En} (he : es[i]? = some e) (hhi : e.1 < hi) : letsOf lo e.1 es = letsOf lo hi (es.take i) := by
  have a1 : ∀ l : List En, (∀ x, x ∈ l → ¬ x.1 < e.1) → letsOf lo e.1 l = [] := fun l => by
    induction l with
    | nil => intro _; rfl
    | cons x l ih =>
      intro h
      rw [letsOf, if_neg (fun z => h x List.mem_cons_self z.2)]
      exact ih fun y hy => h y (List.mem_cons_of_mem _ hy)
  have a2 : ∀ l : List En, (∀ x, x ∈ l → x.1 < e.1) → letsOf lo e.1 l = letsOf lo hi l := fun l => by
    induction l with
    | nil => intro _; rfl
    | cons x l ih =>
      intro h
      have h1 := h x List.mem_cons_self
      rw [letsOf, letsOf, ih fun y hy => h y (List.mem_cons_of_mem _ hy)]
      by_cases c : lo ≤ x.1
      · rw [if_pos ⟨c, h1⟩, if_pos ⟨c, by omega⟩]
      · rw [if_neg (fun z => c z.1), if_neg (fun z => c z.1)]
  have hs : es = es.take i ++ es.drop i := (List.take_append_drop i es).symm
  have hd := drop_at he
  have ha' : ((es.take i).map (·.1) ++ (es.drop i).map (·.1)).Pairwise (· < ·) := by rw [← List.map_append, List.take_append_drop]; exact ha
  obtain ⟨_, p2, p3⟩ := List.pairwise_append.mp ha'
  rw [hd, List.map_cons] at p2 p3
  rw [show letsOf lo e.1 es = letsOf lo e.1 (es.take i ++ es.drop i) by rw [List.take_append_drop], lets_append, a2 (es.take i) fun x hx => ?_, a1 (es.drop i) fun x hx => ?_, List.append_nil]
  · rw [hd] at hx
    rcases List.mem_cons.mp hx with rfl | hx
    · omega
    · have := (List.pairwise_cons.mp p2).1 x.1 (List.mem_map_of_mem hx)
      omega
  · exact p3 x.1 (List.mem_map_of_mem hx) e.1 List.mem_cons_self

/-- the low mark of a position -/
def LowM (ms : List Int) (n lo : Int) : Prop := lo ∈ ms ∧ lo ≤ n ∧ ∀ m, m ∈ ms → m ≤ n → m ≤ lo
theorem filter_snoc {α : Type} {p : α → Bool} {l : List α} {i : Nat} {x : α} (h : l[i]? = some x) : (l.take (i + 1)).filter p = (l.take i).filter p ++ (if p x = true then [x] else []) := by
  rw [take_next h, List.filter_append]
  congr 1
  by_cases c : p x = true
  · rw [if_pos c, List.filter_cons, if_pos c, List.filter_nil]
  · rw [if_neg c, List.filter_cons, if_neg c, List.filter_nil]
theorem lets_one (lo hi : Int) (e : En) : letsOf lo hi [e] = if lo ≤ e.1 ∧ e.1 < hi then (match letNm e.2.2 with | some z => [(.inr z, .int e.1)] | none => []) else [] := by
  rw [letsOf, letsOf]
  all_goals (cases letNm e.2.2 <;> rfl)
section
variable {P : Program} {w : World} {K : PySem.W.Frag} {mg : Str → Option Value} {base : Heap}
abbrev s_start_of : Stmt := topS 18
abbrev N_sof : List Str := ["marks", "position", "mark"]
theorem sc_start_of : FnScope N_sof ["marks", "position"] (defScope s_start_of) := ⟨rfl, rfl, rfl, by decide +kernel, rfl, by decide +kernel, by decide +kernel⟩
def sp_sof (K : PySem.W.Frag) : Sp := fun vs H Q _ => ∃ (mp : Addr) (n lo : Int) (ms : List Int), vs = [.ref mp, .int n] ∧ SqT K H mp (ms.map V.int) ∧ LowM ms n lo ∧ ms.length ≤ 6 ∧ ∀ H', Same H H' → Q (.int lo) H'
theorem ok_start_of {f : Addr} {fd : FuncData} {k : Nat} (F : Fun K "start_of" "start_of" s_start_of f fd) (mmax : mg "max" = none) : FnOk P w K mg base CX0 (k + 1) f fd ["marks", "position"] (sp_sof K) := by
  have nd := sc_start_of.nd
  refine F.ok sc_start_of (fun vs H Q E h => ?_) (fun cdv A outer s H vs Q E hr h => ?_)
  · obtain ⟨mp, n, lo, ms, rfl, _⟩ := h
    rfl
  obtain ⟨mp, n, lo, ms, rfl, h2, hlo, hms, q⟩ := h
  refine ⟨_, (pss_one (ps_ret (pe_callBK (SC.cr_maxD rfl (hu_of hr)) (by rfl) mmax boot_max (pa_cons (pe_lc (own := [("mark", 2)]) (tt := tTest (tOp (rI0 fun i j => .bl (decide (i ≤ j))) (tVar 2) (tVar 1))) (te := tVar 2) rfl nd (pi_tup (pv 0)) (blkOk_by (N := N_sof) (sc := defScope s_start_of) (by decide +kernel)) (fun _ _ _ _ _ => (pg_name (i := 2) nd rfl (Or.inl rfl))) (fun _ _ _ _ _ => (pts_one (pt_cmpR op_le (pv 2) (pv 1) (nomark _)))) (fun _ _ _ _ _ => (pv 2))) pa_nil) (pk_cons pe_int pk_nil)))), ?_⟩
  refine ⟨.ref mp, rfl, mp, rfl, ⟨_, h2⟩, fun D nD => ?_⟩
  refine lc_tup (xs := ms.map V.int) (fun i H' => H' D = some (.lst (((ms.take i).filter fun m => decide (m ≤ n)).map V.int)) ∧ ∀ b o, b ≠ D → H b = some o → H' b = some o) ?_ ?_ ?_ ?_
  · exact ⟨upd_same, fun b o nb e => by rw [upd_ne nb]; exact e⟩
  · rintro i H' _ ⟨_, kp⟩
    exact (KeepT.of (show Same H H' from fun b o e => kp b o (ne_of_none e nD) e)).seqt h2
  · rintro i x H' hx ⟨hD, kp⟩
    rw [List.getElem?_map] at hx
    obtain ⟨m, hm, rfl⟩ := Option.map_eq_some_iff.mp hx
    refine ⟨rfl, .int m, rfl, .int n, rfl, m, n, rfl, rfl, _, rfl, ?_⟩
    rw [filter_snoc hm]
    by_cases c : m ≤ n
    · rw [decide_eq_true c, if_pos rfl]
      refine iteT ⟨.int m, rfl, _, hD, small1000 ?_, ?_, fun b o nb e => by rw [upd_ne nb]; exact kp b o nb e⟩
      · rw [List.length_map]
        exact Nat.le_trans (List.length_filter_le _ _) (by rw [List.length_take]; omega)
      · rw [List.map_append]
        exact upd_same
    · rw [decide_eq_false c, if_neg Bool.false_ne_true, List.append_nil]
      exact iteF ⟨hD, kp⟩
  · rintro H1 ⟨hD, kp⟩
    rw [List.length_map, List.take_length] at hD
    have sm1 : Same H H1 := fun b o e => kp b o (ne_of_none e nD) e
    refine ⟨D, _, .int 0, rfl, rfl, .inl (.inl hD), fun z => ?_, fun m hm hmax => ?_⟩
    · have : lo ∈ ms.filter fun m => decide (m ≤ n) := List.mem_filter.mpr ⟨hlo.1, decide_eq_true hlo.2.1⟩
      rw [z] at this
      exact nomatch this
    obtain ⟨hm1, hm2⟩ := List.mem_filter.mp hm
    obtain rfl : m = lo := by
      have a1 := hlo.2.2 m hm1 (of_decide_eq_true hm2)
      have a2 := hmax lo (List.mem_filter.mpr ⟨hlo.1, decide_eq_true hlo.2.1⟩)
      omega
    exact q H1 sm1
end
section
variable {P : Program} {w : World} {K : PySem.W.Frag} {mg : Str → Option Value} {base : Heap}
abbrev s_lets_at : Stmt := topS 19
abbrev N_lat : List Str := ["log", "position", "marks", "entries", "start", "place", "statement"]
theorem sc_lets_at : FnScope N_lat ["log", "position"] (defScope s_lets_at) := ⟨rfl, rfl, rfl, by decide +kernel, rfl, by decide +kernel, by decide +kernel⟩
def sp_lat (K : PySem.W.Frag) : Sp := fun vs H Q _ => ∃ (p : Addr) (n lo : Int) (ms : List Int) (es : List En), vs = [.ref p, .int n] ∧ Lg K H p ms es ∧ LowM ms n lo ∧ ms.length ≤ 6 ∧ es.length ≤ 30 ∧
  ∀ H' d, Same H H' → H d = none → H' d = some (.dK (mergeK [] (letsOf lo n es))) → Q (.ref d) H'
theorem ok_lets_at {f : Addr} {fd : FuncData} {k : Nat} (F : Fun K "lets_at" "lets_at" s_lets_at f fd) {f_s : Addr} {d_s : FuncData} (G : FnOk P w K mg base CX0 k f_s d_s ["marks", "position"] (sp_sof K)) (g : mg "start_of" = some (.ref f_s)) (Kf : PySem.W.keepIn K (.ref f_s) = true) (bf : Binds K d_s ["marks", "position"] []) : FnOk P w K mg base CX0 (k + 1) f fd ["log", "position"] (sp_lat K) := by
  have nd := sc_lets_at.nd
  refine F.ok sc_lets_at (fun vs H Q E h => ?_) (fun cdv A outer s H vs Q E hr h => ?_)
  · obtain ⟨p, n, lo, ms, es, rfl, _⟩ := h
    rfl
  obtain ⟨p, n, m, ms, es, rfl, ⟨mp, ep, rs, h1, h2, h3, h4⟩, hlo, hms, hes, q⟩ := h
  refine ⟨_, (pss_cons (ps_asg (pv 0) (pg_tup rfl (pgs_cons (pg_name (i := 2) nd rfl (Or.inl rfl)) (pgs_cons (pg_name (i := 3) nd rfl (Or.inl rfl)) pgs_nil))))
      (pss_cons (ps_set (i := 4) nd rfl (.inr rfl) (pe_call G hr (by rfl) g Kf bf .nil pass0 (pa_cons (pv 2) (pa_cons (pv 1) pa_nil))))
      (pss_one (ps_ret (pe_dc (own := [("place", 5), ("statement", 6)]) (g := gTup K 2 (gCons (gName 5) (gCons (gName 6) gNil))) (tt := tAnd (tTest (tChain (rI0 fun i j => .bl (decide (i ≤ j))) (rI0 fun i j => .bl (decide (i < j))) (tVar 4) (tVar 5) (tVar 1))) (tTest (tOp rEq (tOp (rIxT K) (tVar 6) (tC (.int 0))) (tC (.str "let")))))
          (tk := tOp (rIxT K) (tVar 6) (tC (.int 1))) (tv := tVar 5) rfl nd (pi_tup (pv 3)) (blkOk_by (N := N_lat) (sc := defScope s_lets_at) (by decide +kernel))
          (fun _ _ _ _ _ => (pg_tup rfl (pgs_cons (pg_name (i := 5) (x := "place") nd rfl (Or.inl rfl)) (pgs_cons (pg_name (i := 6) (x := "statement") nd rfl (Or.inl rfl)) pgs_nil))))
          (fun _ _ _ _ _ => pts_one (PW.pt (pw_and (pt_chain op_le op_lt (pv 4) (pv 5) (pv 1)) (pw_and1 (pt_cmpR op_eq (pe_ix ix_tup (pv 6) pe_int (fun _ _ => rfl)) pe_str (nomark _))))))
          (fun _ _ _ _ _ => (pe_ix ix_tup (pv 6) pe_int (fun _ _ => rfl))) (fun _ _ _ _ _ => (pv 5))))))), ?_⟩
  refine ⟨.ref p, rfl, p, _, rfl, .inl (.inl h1), rfl, _, _, rfl, _, _, rfl, rfl, ?_⟩
  -- start
  refine ⟨.ref mp, rfl, .int n, rfl, mp, n, m, ms, rfl, .inl (.inl h2), hlo, hms, fun H1 sm1 => ?_⟩
  have h31 : SqT K H1 ep (rs.map V.ref) := .inl (rd_keep h3 (KeepT.of sm1))
  have h41 := ens_keep (KeepT.of sm1) h4
  refine ⟨.ref ep, rfl, ep, rfl, ⟨_, h31⟩, fun d nd2 => ?_⟩
  refine dc_tup (xs := rs.map V.ref) (fun i H' => H' d = some (.dK (mergeK [] (letsOf m n (es.take i)))) ∧ ∀ b o, b ≠ d → H1 b = some o → H' b = some o) ?_ ?_ ?_ ?_
  · exact ⟨upd_same, fun b o nb e => by rw [upd_ne nb]; exact e⟩
  · rintro i H' _ ⟨_, kp2⟩
    exact .inl (rd_keep (rd_keep h3 (KeepT.of sm1)) ⟨fun b xs e => kp2 b _ (ne_of_none e nd2) e, fun b o xs e => kp2 b _ (ne_of_none e nd2) e⟩)
  · rintro i x H' hx ⟨hd, kp2⟩
    rw [List.getElem?_map] at hx
    obtain ⟨r, hr', rfl⟩ := Option.map_eq_some_iff.mp hx
    obtain ⟨e, he, h5⟩ := ens_at h41 hr'
    have kt2 : KeepT H1 H' := ⟨fun b xs e => kp2 b _ (ne_of_none e nd2) e, fun b o xs e => kp2 b _ (ne_of_none e nd2) e⟩
    have h6 := h5.keep kt2
    refine ⟨r, _, rfl, .inl (.inl h6.1), rfl, _, _, rfl, _, _, rfl, rfl, rfl, ?_⟩
    have hls := lets_append m n (es.take i) [e]
    rw [← take_next he, lets_one] at hls
    refine ⟨.int m, rfl, .int e.1, rfl, m, e.1, rfl, rfl, _, rfl, ?_⟩
    have hlen : (mergeK [] (letsOf m n (es.take i))).length ≤ 30 := Nat.le_trans (merge_len _) (Nat.le_trans (lets_len _ _ _) (by rw [List.length_take]; omega))
    by_cases c1 : m ≤ e.1
    · rw [decide_eq_true c1]
      refine iteT ⟨.int n, rfl, e.1, n, rfl, rfl, _, rfl, ?_⟩
      by_cases c2 : e.1 < n
      · rw [decide_eq_true c2]
        rw [if_pos ⟨c1, c2⟩] at hls
        obtain ⟨p', wd, v1, vs', ev, hp', hc⟩ := sv_lets h5.2
        have hp2 := kt2.1 _ _ hp'
        refine iteT ⟨e.2.1, rfl, p', _, 0, .str wd, ev, rfl, .inl (.inl hp2), atI_nat (j := 0) rfl, rfl, _, rfl, ?_⟩
        rcases hc with ⟨rfl, z, rfl, hz, hlz⟩ | ⟨hw, hlz⟩
        · rw [decide_eq_true rfl]
          rw [hlz] at hls
          refine iteT ⟨e.2.1, rfl, p', _, 1, .str z, ev, rfl, .inl (.inl hp2), atI_nat (j := 1) rfl, .int e.1, rfl, _, .inr z, rfl, hd, small1000 (by omega), ?_, fun b o nb q' => by rw [upd_ne nb]; exact kp2 b o nb q'⟩
          rw [hls, merge_snoc]
          exact upd_same
        · rw [decide_eq_false (fun z => hw (by injection z))]
          rw [hlz, List.append_nil] at hls
          refine iteF ⟨?_, kp2⟩
          rw [hls]
          exact hd
      · rw [decide_eq_false c2]
        rw [if_neg (fun z => c2 z.2), List.append_nil] at hls
        refine iteF ⟨?_, kp2⟩
        rw [hls]
        exact hd
    · rw [decide_eq_false c1]
      rw [if_neg (fun z => c1 z.1), List.append_nil] at hls
      refine iteF ⟨_, rfl, iteF ⟨?_, kp2⟩⟩
      rw [hls]
      exact hd
  · rintro H2 ⟨hd, kp2⟩
    have hl := ens_len h4
    rw [List.length_map, hl, List.take_length] at hd
    exact q _ d (fun b o e => kp2 b o (ne_of_none (sm1 _ _ e) nd2) (sm1 _ _ e)) (Same.free sm1 nd2) hd
end
end L19

set_option maxHeartbeats 1000000
namespace L19
open PySem PySem.Spec PyProof.Rows L2 GR WX TX RZ NdefX CLo LamX
/-! ### a dict walked -/
/-- what an expression gives is locked from here on -/
def tFrz (t : TE) : TE := fun σ H Q => t σ H fun v H1 => ∃ (d : Addr) (u : HO), v = .ref d ∧ H1 d = some u ∧ Mut (some u) ∧ ∀ od, Q (.ref d) (upd H1 d (.frz od u))
theorem pe_frz {X : L2.Cx} {e : Expr} {t : TE} (h : PE X e t) : PE X e (tFrz t) := by
  refine ⟨fun pins s σ H Q I hw => ?_⟩
  refine thn (h.run pins s σ _ _ I hw) fun v s1 ⟨x, H1, I1, r, d, u, ex, hd, mu, q⟩ => ?_
  subst ex
  obtain ⟨od, I2⟩ := I1.lock hd mu
  exact ⟨.ref d, _, I2, r, q od⟩
theorem keys_body {d : Addr} {o : Obj} {kvs : List (Key × V)} {body : V → Hp → (Hp → Prop) → Prop} {H0 : Hp} {Qd : Hp → Prop} (Pv : Nat → Hp → Prop) (h0 : Pv 0 H0) (hl : ∀ i H, i ≤ kvs.length → Pv i H → H d = some (.frz o (.dK kvs)))
    (hs : ∀ i k v H, kvs[i]? = some (k, v) → Pv i H → body (kV k) H (Pv (i + 1))) (hd : ∀ H, Pv kvs.length H → Qd H) :
    ∃ W : Nat → Nat → Hp → Prop, (∃ m, W 0 m H0) ∧ ∀ i m H, W i m H →
      ((Itk d o kvs).stop i H ∧ Qd H) ∨ ((Itk d o kvs).go i H ∧ ∃ Nx : Hp → Prop, (∀ H', Nx H' → ∃ m', m' < m ∧ W (i + 1) m' H') ∧ ∀ x H', (Itk d o kvs).yld i H x H' → body x H' Nx) := by
  refine ⟨fun i m H => m = kvs.length - i ∧ i ≤ kvs.length ∧ Pv i H, ⟨kvs.length, rfl, Nat.zero_le _, h0⟩, ?_⟩
  rintro i m H ⟨rfl, hi, p⟩
  have q := hl i H hi p
  by_cases hlt : i < kvs.length
  · refine .inr ⟨⟨q, hlt⟩, Pv (i + 1), fun H' p' => ⟨kvs.length - (i + 1), by omega, rfl, hlt, p'⟩, fun x H' y => ?_⟩
    obtain ⟨rfl, k, v, hk, rfl⟩ := y
    exact hs i k v _ hk p
  · obtain rfl : i = kvs.length := by omega
    exact .inl ⟨⟨q, Nat.le_refl _⟩, hd H p⟩
/-- a dict of names and numbers, each name once -/
structure Lts (kvs : List (Key × V)) : Prop where
  nd : (kvs.map (·.1)).Nodup
  all : ∀ p, p ∈ kvs → ∃ (z : Str) (q : Int), p = (.inr z, .int q)
theorem Lts.put {kvs : List (Key × V)} (h : Lts kvs) (z : Str) (q : Int) : Lts (putK kvs (.inr z) (.int q)) := by
  unfold putK
  split
  · constructor
    · have : ((kvs.map fun kv => if kv.1 = .inr z then (kv.1, V.int q) else kv).map (·.1)) = kvs.map (·.1) := by
        rw [List.map_map]
        refine List.map_congr_left fun kv _ => ?_
        show (if kv.1 = .inr z then (kv.1, V.int q) else kv).1 = kv.1
        split <;> rfl
      rw [this]
      exact h.nd
    · intro p hp
      obtain ⟨kv, hkv, rfl⟩ := List.mem_map.mp hp
      obtain ⟨z', q', rfl⟩ := h.all kv hkv
      split
      · exact ⟨z', q, rfl⟩
      · exact ⟨z', q', rfl⟩
  · rename_i hn
    constructor
    · rw [List.map_append, List.nodup_append]
      refine ⟨h.nd, by simp, fun a ha b hb e => hn ?_⟩
      obtain ⟨kv, hkv, rfl⟩ := List.mem_map.mp ha
      rw [List.map_singleton, List.mem_singleton] at hb
      rw [List.any_eq_true]
      exact ⟨kv, hkv, decide_eq_true (e.trans hb)⟩
    · intro p hp
      rcases List.mem_append.mp hp with hp | hp
      · exact h.all p hp
      · rw [List.mem_singleton.mp hp]
        exact ⟨z, q, rfl⟩
theorem letsOf_all (lo hi : Int) : ∀ (es : List En) (p : Key × V), p ∈ letsOf lo hi es → ∃ (z : Str) (q : Int), p = (.inr z, .int q)
  | [], p, h => (nomatch h)
  | e :: es, p, h => by
    rw [letsOf] at h
    have ih := letsOf_all lo hi es p
    split at h
    · split at h
      · rename_i z _
        rcases List.mem_cons.mp h with rfl | h
        · exact ⟨z, e.1, rfl⟩
        · exact ih h
      · exact ih h
    · exact ih h
theorem Lts.merge : ∀ {more kvs : List (Key × V)}, Lts kvs → (∀ p, p ∈ more → ∃ (z : Str) (q : Int), p = (.inr z, .int q)) → Lts (mergeK kvs more)
  | [], kvs, h, _ => h
  | p :: more, kvs, h, g => by
    obtain ⟨z, q, rfl⟩ := g p List.mem_cons_self
    have := Lts.merge (h.put z q) fun p hp => g p (List.mem_cons_of_mem _ hp)
    unfold mergeK at this ⊢
    rw [List.foldl_cons]
    exact this
theorem lts_lets (lo hi : Int) (es : List En) : Lts (mergeK [] (letsOf lo hi es)) := Lts.merge ⟨.nil, fun p h => (nomatch h)⟩ (letsOf_all lo hi es)
/-- the positions that these lets tell -/
def lzK (kvs : List (Key × V)) (z : Str) : Option Int := match valV kvs (.inr z) with
  | some (.int q) => some q
  | _ => none
theorem valV_cons (p : Key × V) (kvs : List (Key × V)) (k : Key) : valV (p :: kvs) k = if p.1 = k then some p.2 else valV kvs k := by
  unfold valV
  rw [List.find?_cons]
  by_cases h : p.1 = k
  · rw [if_pos h, decide_eq_true h]
    rfl
  · rw [if_neg h, decide_eq_false h]
theorem valV_mem {kvs : List (Key × V)} {k : Key} {v : V} (hn : (kvs.map (·.1)).Nodup) (h : (k, v) ∈ kvs) : valV kvs k = some v := by
  induction kvs with
  | nil => exact (nomatch h)
  | cons p kvs ih =>
    rw [List.map_cons, List.nodup_cons] at hn
    rw [valV_cons]
    rcases List.mem_cons.mp h with rfl | h
    · rw [if_pos rfl]
    · have hne : ¬ p.1 = k := fun e => hn.1 (by rw [e]; exact List.mem_map_of_mem (f := (·.1)) h)
      rw [if_neg hne]
      exact ih hn.2 h
theorem valV_none {kvs : List (Key × V)} {k : Key} (h : k ∉ kvs.map (·.1)) : valV kvs k = none := by
  induction kvs with
  | nil => rfl
  | cons p kvs ih =>
    rw [List.map_cons, List.mem_cons, not_or] at h
    rw [valV_cons, if_neg fun e => h.1 e.symm]
    exact ih h.2
/-- the same names, their positions as lets -/
abbrev AccR (K : PySem.W.Frag) (H : Hp) : List (Key × V) → List (Key × V) → Prop := Paired fun a b => a.1 = b.1 ∧ ∃ q, b.2 = .int q ∧ Dp K H a.2 (letD q)
theorem AccR.keep {K : PySem.W.Frag} {H H' : Hp} (k : KeepT H H') : ∀ {a b : List (Key × V)}, AccR K H a b → AccR K H' a b
  | _, _, .nil => .nil
  | _, _, .cons ⟨h1, q, h2, h3⟩ t => .cons ⟨h1, q, h2, dp_keep k _ _ (flat_letD q) h3⟩ (AccR.keep k t)
theorem AccR.snoc {K : PySem.W.Frag} {H : Hp} {x y : Key × V} (h : x.1 = y.1 ∧ ∃ q, y.2 = .int q ∧ Dp K H x.2 (letD q)) : ∀ {a b : List (Key × V)}, AccR K H a b → AccR K H (a ++ [x]) (b ++ [y])
  | _, _, .nil => .cons h .nil
  | _, _, .cons g t => .cons g (AccR.snoc h t)
theorem AccR.val {K : PySem.W.Frag} {H : Hp} (k : Key) : ∀ {a b : List (Key × V)}, AccR K H a b → (∃ q v, valV b k = some (.int q) ∧ valV a k = some v ∧ Dp K H v (letD q)) ∨ (valV b k = none ∧ valV a k = none)
  | _, _, .nil => .inr ⟨rfl, rfl⟩
  | _, _, .cons (a := x) (b := y) ⟨h1, q, h2, h3⟩ t => by
    rw [valV_cons, valV_cons, h1]
    by_cases e : y.1 = k
    · rw [if_pos e, if_pos e, h2]
      exact .inl ⟨q, x.2, rfl, rfl, h3⟩
    · rw [if_neg e, if_neg e]
      exact AccR.val k t
theorem AccR.lz {K : PySem.W.Frag} {H : Hp} {a b : List (Key × V)} (h : AccR K H a b) : LzAt K H a (lzK b) := fun z => by
  unfold lzK
  rcases h.val (.inr z) with ⟨q, v, h1, h2, h3⟩ | ⟨h1, h2⟩
  · exact .inl ⟨q, v, by rw [h1], h2, h3⟩
  · exact .inr ⟨by rw [h1], h2⟩
end L19

set_option maxHeartbeats 1000000
namespace L19
open PySem PySem.Spec PyProof.Rows L2 GR WX TX RZ NdefX CLo LamX
theorem dpAll_get {K : PySem.W.Frag} {H : Hp} : ∀ {vs : List V} {ds : List PyData} {i : Nat} {d : PyData}, DpAll K H vs ds → ds[i]? = some d → ∃ v, vs[i]? = some v ∧ Dp K H v d
  | _, _, 0, d, .cons h _, e => by
    cases e
    exact ⟨_, rfl, h⟩
  | _, _, i + 1, d, .cons _ t, e => by
    obtain ⟨v, h1, h2⟩ := dpAll_get t (by simpa using e)
    exact ⟨v, by simpa using h1, h2⟩
  | _, _, _, _, .nil, e => by simp at e
def guardX (t : Str) (P : PyData) : PyData := .tuple [.str "if", rowX t, P, intD 0]
/-- the expression of a statement's slots of this word -/
def SlotOk (word : Str) (xs : List PyData) (y : PyData) : Prop := (word = "guard" ∧ ∃ t P, xs[1]? = some (.str t) ∧ xs[2]? = some P ∧ y = guardX t P) ∨ (word = "key" ∧ xs[2]? = some y) ∨ (word ≠ "guard" ∧ word ≠ "key" ∧ ∃ pre, xs = pre ++ [y])
section
variable {P : Program} {w : World} {K : PySem.W.Frag} {mg : Str → Option Value} {base : Heap}
abbrev s_rows_of : Stmt := topS 10
theorem sc_rows_of : FnScope ["table"] ["table"] (defScope s_rows_of) := ⟨rfl, rfl, rfl, by decide +kernel, rfl, by decide +kernel, by decide +kernel⟩
def sp_rows (K : PySem.W.Frag) : Sp := fun vs H Q _ => ∃ t : Str, vs = [.str t] ∧ ∀ H' v, Same H H' → Dp K H' v (rowX t) → Q v H'
theorem ok_rows_of {f : Addr} {fd : FuncData} {k : Nat} (F : Fun K "rows_of" "rows_of" s_rows_of f fd) : FnOk P w K mg base CX0 (k + 1) f fd ["table"] (sp_rows K) := by
  refine F.ok sc_rows_of (fun vs H Q E h => ?_) (fun cdv A outer s H vs Q E hr h => ?_)
  · obtain ⟨t, rfl, _⟩ := h
    rfl
  obtain ⟨t, rfl, q⟩ := h
  refine ⟨_, (pss_one (ps_ret (pe_tup (pa_cons pe_str (pa_cons (pv 0) (pa_cons (pe_tup (pa_cons pe_str pa_nil)) (pa_cons pe_str pa_nil))))))), ?_⟩
  refine ⟨.str t, rfl, h1000 (show 1 ≤ 1000 by decide), fun p1 n1 => ⟨h1000 (show 4 ≤ 1000 by decide), fun p2 n2 => ?_⟩⟩
  have s1 := same_upd (o := .tup [.str "key"]) n1
  have b1 := new_tup (K := K) (.cons (.str "key") .nil) rfl n1
  exact q _ _ (s1.trans (same_upd n2)) (new_tup (.cons (.str _) (.cons (.str t) (.cons b1 (.cons (.str _) .nil)))) rfl n2)
abbrev s_slot_expression : Stmt := topS 21
theorem sc_slot_expression : FnScope ["statement", "word"] ["statement", "word"] (defScope s_slot_expression) := ⟨rfl, rfl, rfl, by decide +kernel, rfl, by decide +kernel, by decide +kernel⟩
def sp_se (K : PySem.W.Frag) : Sp := fun vs H Q _ => ∃ (v : V) (word : Str) (xs : List PyData) (y : PyData), vs = [v, .str word] ∧ Dp K H v (.tuple xs) ∧ flatDs xs = true ∧ SlotOk word xs y ∧ ∀ H' v', Same H H' → Dp K H' v' y → Q v' H'
theorem ok_slot_expression {f fr : Addr} {fd fdr : FuncData} {k : Nat} (F : Fun K "slot_expression" "slot_expression" s_slot_expression f fd) (G : FnOk P w K mg base CX0 k fr fdr ["table"] (sp_rows K)) (g : mg "rows_of" = some (.ref fr)) (Kf : PySem.W.keepIn K (.ref fr) = true) (b : Binds K fdr ["table"] []) :
    FnOk P w K mg base CX0 (k + 1) f fd ["statement", "word"] (sp_se K) := by
  refine F.ok sc_slot_expression (fun vs H Q E h => ?_) (fun cdv A outer s H vs Q E hr h => ?_)
  · obtain ⟨v, word, xs, y, rfl, _⟩ := h
    rfl
  obtain ⟨v, word, xs, y, rfl, hd, hfl, hs, q⟩ := h
  refine ⟨_, (pss_cons (ps_if (pt_cmpR op_eq (pv 1) pe_str (nomark _))
      (pss_one (ps_ret (pe_tup (pa_cons pe_str (pa_cons (pe_call G hr (by rfl) g Kf b .nil pass0 (pa_cons (pe_ix ix_tup (pv 0) pe_int (fun _ _ => rfl)) pa_nil)) (pa_cons (pe_ix ix_tup (pv 0) pe_int (fun _ _ => rfl)) (pa_cons (pe_tup (pa_cons pe_str (pa_cons pe_int pa_nil))) pa_nil)))))))
      pss_nil)
      (pss_cons (ps_if (pt_cmpR op_eq (pv 1) pe_str (nomark _))
      (pss_one (ps_ret (pe_ix ix_tup (pv 0) pe_int (fun _ _ => rfl))))
      pss_nil)
      (pss_one (ps_ret (pe_ix ix_tup (pv 0) (pe_un un_neg pe_int) (fun _ _ => rfl)))))), ?_⟩
  cases hd with
  | tup hS hA =>
  rename_i p vs
  have word_is : ∀ {A B : Prop} (z : Str), (word = z → A) → (word ≠ z → B) → if decide (V.str word = V.str z) = true then A else B := fun {A B} z h1 h2 => by
    by_cases e : word = z
    · rw [if_pos (decide_eq_true (by rw [e]))]
      exact h1 e
    · rw [if_neg (fun c => e (V.str.inj (of_decide_eq_true c)))]
      exact h2 e
  refine ⟨.str word, rfl, rfl, _, rfl, word_is "guard" (fun e => ?_) (fun e => ?_)⟩
  · rcases hs with ⟨_, t, P', h1, h2, rfl⟩ | ⟨rfl, _⟩ | ⟨h, _⟩
    · obtain ⟨v1, a1, d1⟩ := dpAll_get hA h1
      cases d1
      obtain ⟨v2, a2, d2⟩ := dpAll_get hA h2
      have f2 := flatDs_at hfl h2
      refine ⟨.ref p, rfl, p, _, 1, .str t, rfl, rfl, hS, atI_nat a1, t, rfl, fun H1 vr s1 hr1 => ?_⟩
      refine ⟨.ref p, rfl, p, _, 2, v2, rfl, rfl, (KeepT.of s1).seqt hS, atI_nat a2, h1000 (show 2 ≤ 1000 by decide), fun p1 n1 => ⟨h1000 (show 4 ≤ 1000 by decide), fun p2 n2 => ?_⟩⟩
      have s2 := same_upd (o := .tup [.str "int", .int 0]) n1
      have b1 := new_tup (K := K) (.cons (.str "int") (.cons (.int 0) .nil)) rfl n1
      refine q _ _ ((s1.trans s2).trans (same_upd n2)) (new_tup (.cons (.str _) (.cons (dp_keep (KeepT.of s2) _ _ rfl hr1) (.cons (dp_keep (KeepT.of (s1.trans s2)) _ _ f2 d2) (.cons b1 .nil)))) ?_ n2)
      simp only [flatDs, flatD, f2, rowX, intD, Bool.and_self]
    · exact absurd e (by decide)
    · exact absurd e h
  · refine ⟨.str word, rfl, rfl, _, rfl, word_is "key" (fun e2 => ?_) (fun e2 => ?_)⟩
    · rcases hs with ⟨h, _⟩ | ⟨_, h2⟩ | ⟨_, h, _⟩
      · exact absurd h e
      · obtain ⟨v2, a2, d2⟩ := dpAll_get hA h2
        exact ⟨.ref p, rfl, p, _, 2, v2, rfl, rfl, hS, atI_nat a2, q H v2 (fun _ _ e => e) d2⟩
      · exact absurd e2 h
    · rcases hs with ⟨h, _⟩ | ⟨h, _⟩ | ⟨_, _, pre, rfl⟩
      · exact absurd h e
      · exact absurd h e2
      · obtain ⟨yv, d, xs', hsplit, hy, _, hyd⟩ := dpAll_last hA (fun z => by
          rw [z] at hA
          have := dpAll_len hA
          rw [List.length_append] at this
          cases this)
        obtain ⟨_, h2⟩ := List.append_inj' hsplit rfl
        have h2 : y = d := (List.cons.inj h2).1
        subst h2
        have hne : vs ≠ [] := fun z => by rw [z] at hy; cases hy
        have hv : vs = vs.dropLast ++ [yv] := by
          have e1 := List.dropLast_concat_getLast hne
          have e3 : vs.getLast hne = yv := by
            rw [← List.getLast?_eq_getElem?, List.getLast?_eq_getLast hne] at hy
            exact Option.some.inj hy
          rw [e3] at e1
          exact e1.symm
        refine ⟨.ref p, rfl, 1, rfl, p, vs, -1, yv, rfl, rfl, hS, ?_, q H yv (fun _ _ e => e) hyd⟩
        rw [hv]
        exact atI_last _ _
abbrev s_with_lets : Stmt := topS 23
abbrev N_wl : List Str := ["log", "expression", "position", "lets", "name"]
theorem sc_with_lets : FnScope N_wl ["log", "expression", "position"] (defScope s_with_lets) := ⟨rfl, rfl, rfl, by decide +kernel, rfl, by decide +kernel, by decide +kernel⟩
def lzOf (lo n : Int) (es : List En) : Str → Option Int := lzK (mergeK [] (letsOf lo n es))
def sp_wlets (K : PySem.W.Frag) (T : List NTab) : Sp := fun vs H Q _ => ∃ (p : Addr) (v : V) (n lo : Int) (ms : List Int) (es : List En) (x : PyData) (zs : List Str) (m : Nat), vs = [.ref p, v, .int n] ∧ Lg K H p ms es ∧ LowM ms n lo ∧ ms.length ≤ 6 ∧ es.length ≤ 30 ∧ Dp K H v x ∧ Ex zs m x ∧ (flatP m x).length ≤ 2100000 ∧ TabsN T H ∧
  ∀ H' v', ExtN H H' → TabsN T H' → Dp K H' v' (varW (lzOf lo n es) m x) → Q v' H'
theorem ok_with_lets {T : List NTab} {f fl fv : Addr} {fd fdl fdv : FuncData} {k : Nat} (F : Fun K "with_lets" "with_lets" s_with_lets f fd) (Gl : FnOk P w K mg base CX0 k fl fdl ["log", "position"] (sp_lat K)) (gl : mg "lets_at" = some (.ref fl)) (Kl : PySem.W.keepIn K (.ref fl) = true) (bl : Binds K fdl ["log", "position"] [])
    (Gv : FnOk P w K mg base CX0 k fv fdv ["expression", "others"] (sp_wv K T)) (gv : mg "with_variables" = some (.ref fv)) (Kv : PySem.W.keepIn K (.ref fv) = true) (bv : Binds K fdv ["expression", "others"] []) :
    FnOk P w K mg base CX0 (k + 1) f fd ["log", "expression", "position"] (sp_wlets K T) := by
  have nd := sc_with_lets.nd
  refine F.ok sc_with_lets (fun vs H Q E h => ?_) (fun cdv A outer s H vs Q E hr h => ?_)
  · obtain ⟨p, v, n, lo, ms, es, x, zs, m, rfl, _⟩ := h
    rfl
  obtain ⟨p, v, n, lo, ms, es, x, zs, m, rfl, hL, hlo, hms, hes, hd, he, hb, hT, q⟩ := h
  have hu1 := hu_of hr
  refine ⟨_, (pss_cons (ps_set (i := 3) nd rfl (.inr rfl) (pe_call Gl hr (by rfl) gl Kl bl .nil pass0 (pa_cons (pv 0) (pa_cons (pv 2) pa_nil))))
      (pss_one (ps_ret (pe_call Gv hr (by rfl) gv Kv bv .nil pass0 (pa_cons (pv 1) (pa_cons (pe_dc (own := [("name", 4)]) (g := gName 4) (tt := tYes) (tk := tVar 4) (tv := tTup (tCons (tC (.str "let")) (tCons (tDGet (tVar 3) (tVar 4)) tNil))) rfl nd (pi_keys (pe_frz (pv 3))) (blkOk_by (N := N_wl) (sc := defScope s_with_lets) (by decide +kernel))
          (fun _ _ _ _ _ => (pg_name (i := 4) (x := "name") nd rfl (Or.inl rfl))) (fun _ _ _ _ _ => pts_nil) (fun _ _ _ _ _ => (pv 4)) (fun _ _ _ _ _ => (pe_tup (pa_cons pe_str (pa_cons (pe_dget hu1 (pv 3) (pv 4) noSl_name) pa_nil))))) pa_nil)))))), ?_⟩
  refine ⟨.ref p, rfl, .int n, rfl, p, n, lo, ms, es, rfl, hL, hlo, hms, hes, fun H1 d s1 hdn hd1 => ?_⟩
  have hlts := lts_lets lo n es
  unfold lzOf at q
  have hlen : (mergeK [] (letsOf lo n es)).length ≤ 30 := Nat.le_trans (merge_len _) (Nat.le_trans (lets_len _ _ _) hes)
  generalize mergeK [] (letsOf lo n es) = kvs at hd1 hlts q hlen
  refine ⟨v, rfl, .ref d, rfl, d, _, rfl, hd1, True.intro, fun od => ?_⟩
  have hF : upd H1 d (.frz od (.dK kvs)) d = some (.frz od (.dK kvs)) := upd_same
  have sF : Same H (upd H1 d (.frz od (.dK kvs))) := fun b ob e => by
    rw [upd_ne (ne_of_none e hdn)]
    exact s1 _ _ e
  revert hF sF
  generalize upd H1 d (.frz od (.dK kvs)) = H2
  intro hF sF
  refine ⟨d, od, rfl, .inl ⟨kvs, hF, fun D nD => ?_⟩⟩
  have hdD : d ≠ D := ne_of_none hF nD
  refine keys_body (kvs := kvs) (fun i H' => ∃ acc, H' D = some (.dK acc) ∧ acc.length = i ∧ AccR K H' acc (kvs.take i) ∧ ∀ b ob, b ≠ D → H2 b = some ob → H' b = some ob) ?_ ?_ ?_ ?_
  · refine ⟨[], upd_same, rfl, ?_, fun b ob hb e => by rw [upd_ne hb]; exact e⟩
    rw [List.take_zero]
    exact .nil
  · rintro i H' _ ⟨acc, hD, hl, hR, kk⟩
    exact kk _ _ hdD hF
  · rintro i ky val H' hk ⟨acc, hD, hl, hR, kk⟩
    have hmem := List.mem_of_getElem? hk
    obtain ⟨z, qv, e⟩ := hlts.all _ hmem
    cases e
    have hi : i < kvs.length := (List.getElem?_eq_some_iff.mp hk).1
    have hval := valV_mem hlts.nd hmem
    have hF' := kk _ _ hdD hF
    refine ⟨rfl, yes_then ⟨.str z, rfl, .ref d, rfl, .str z, rfl, d, .int qv, rfl, .inl ⟨kvs, .inr z, .inr ⟨od, hF'⟩, rfl, hval.symm⟩, h1000 (show 2 ≤ 1000 by decide), fun t nt => ?_⟩⟩
    have st := same_upd (o := .tup [.str "let", .int qv]) nt
    have hD1 := st _ _ hD
    have hdt : Dp K (upd H' t (.tup [.str "let", .int qv])) (.ref t) (letD qv) := new_tup (.cons (.str "let") (.cons (.int qv) .nil)) rfl nt
    have hnone : valV acc (.inr z) = none := by
      rcases hR.val (.inr z) with ⟨q', v', h1, _, _⟩ | ⟨_, h2⟩
      · exfalso
        have hnd := hlts.nd
        have e1 : kvs = kvs.take i ++ kvs.drop i := (List.take_append_drop i kvs).symm
        have hd2 := drop_at hk
        rw [e1, List.map_append, List.nodup_append] at hnd
        have hin : (Sum.inr z : Key) ∈ (kvs.take i).map (·.1) := by
          apply Classical.byContradiction
          intro hc
          rw [valV_none hc] at h1
          cases h1
        have hin2 : (Sum.inr z : Key) ∈ (kvs.drop i).map (·.1) := by
          rw [hd2, List.map_cons]
          exact List.mem_cons_self
        exact hnd.2.2 _ hin _ hin2 rfl
      · exact h2
    have kD : KeepT (upd H' t (.tup [.str "let", .int qv])) (upd (upd H' t (.tup [.str "let", .int qv])) D (.dK (putK acc (.inr z) (.ref t)))) := KeepT.dk hD1
    refine ⟨acc, .inr z, rfl, hD1, small1000 (by omega), putK acc (.inr z) (.ref t), upd_same, ?_, ?_, fun b ob hb e => ?_⟩
    · rw [putK_new _ hnone, List.length_append, hl]
      rfl
    · rw [putK_new _ hnone] at kD
      rw [putK_new _ hnone, take_snoc hk]
      exact AccR.snoc (x := (.inr z, .ref t)) (y := (.inr z, .int qv)) ⟨rfl, qv, rfl, dp_keep kD _ (.ref t) (flat_letD qv) hdt⟩ (hR.keep ((KeepT.of st).trans kD))
    · rw [upd_ne hb]
      exact st _ _ (kk b ob hb e)
  · rintro H3 ⟨acc, hD, hl, hR, kk⟩
    rw [List.take_length] at hR
    have s3 : Same H H3 := fun b ob e => kk b ob (ne_of_none (sF _ _ e) nD) (sF _ _ e)
    refine ⟨v, D, acc, lzK kvs, x, zs, m, rfl, he.kept (KeepT.of s3) hd, he, hD, hR.lz, hb, fun p hp => (hT p hp).ext s3, fun H4 v' x4 hT4 hr4 => q H4 v' ((ExtN.of s3).trans x4) hT4 hr4⟩
end
end L19

set_option maxHeartbeats 1000000
namespace L19
open PySem PySem.Spec PyProof.Rows L2 GR WX TX RZ NdefX CLo LamX
def keyVs : Option Int → List V
  | none => []
  | some k => [.int k]
theorem stAt_at : ∀ {es : List En}, (es.map (·.1)).Pairwise (· < ·) → ∀ {e : En}, e ∈ es → stAt es e.1 = e.2.1
  | [], _, e, h => (nomatch h)
  | x :: es, ha, e, h => by
    rw [List.map_cons, List.pairwise_cons] at ha
    rw [stAt]
    rcases List.mem_cons.mp h with rfl | h
    · rw [if_pos rfl]
    · rw [if_neg fun z => by
        have := ha.1 e.1 (List.mem_map_of_mem h)
        omega]
      exact stAt_at ha.2 h
theorem ens_mem {K : PySem.W.Frag} {H : Hp} {rs : List Addr} {es : List En} (h : EnsOk K H rs es) {e : En} (he : e ∈ es) : SV K H e.2.1 e.2.2 := by
  obtain ⟨i, hi⟩ := List.mem_iff_getElem?.mp he
  obtain ⟨r, _, h2⟩ := ens_get h hi
  exact h2.2
theorem bnd7 : ∀ m, m < 8 → bnd m ≤ 2100000 := by decide
structure EoC (lo : Int) (ms : List Int) (es : List En) (e : En) (word : Str) (ko : Option Int) (xs : List PyData) (y : PyData) (zs sc : List Str) (b : Bool) (m : Nat) : Prop where
  asc : (es.map (·.1)).Pairwise (· < ·)
  mem : e ∈ es
  low : LowM ms e.1 lo
  ml : ms.length ≤ 6
  el : es.length ≤ 30
  xs' : e.2.2 = .tuple xs
  slot : SlotOk word xs y
  cx : Cx zs sc b m y
  inz : ("in" : Str) ∈ zs
  lets : ∀ z, z ∈ sc → ∃ q, lzOf lo e.1 es z = some q ∧ 0 ≤ q ∧ q ≤ 10000
  dep : m < 8
def sp_eo (K : PySem.W.Frag) (T : List NTab) : Sp := fun vs H Q _ => ∃ (p sl : Addr) (lo : Int) (ms : List Int) (es : List En) (e : En) (word : Str) (ko : Option Int) (xs : List PyData) (y : PyData) (zs sc : List Str) (b : Bool) (m : Nat), vs = [.ref p, .ref sl] ∧ Lg K H p ms es ∧ EoC lo ms es e word ko xs y zs sc b m ∧
  SqT K H sl (.int e.1 :: .str word :: keyVs ko) ∧ TabsN T H ∧ ∀ H' v', ExtN H H' → TabsN T H' → Dp K H' v' (pfE (lzOf lo e.1 es) ko m y) → Q v' H'
abbrev s_expression_of : Stmt := topS 22
theorem sc_expression_of : FnScope ["log", "slot", "expression"] ["log", "slot"] (defScope s_expression_of) := ⟨rfl, rfl, rfl, by decide +kernel, rfl, by decide +kernel, by decide +kernel⟩
section
variable {P : Program} {w : World} {K : PySem.W.Frag} {mg : Str → Option Value} {base : Heap}
theorem ok_expression_of {T : List NTab} {f fw fe fs fk : Addr} {fd fdw fde fds fdk : FuncData} {k : Nat} (F : Fun K "expression_of" "expression_of" s_expression_of f fd)
    (Gw : FnOk P w K mg base CX0 k fw fdw ["log", "expression", "position"] (sp_wlets K T)) (gw : mg "with_lets" = some (.ref fw)) (Kw : PySem.W.keepIn K (.ref fw) = true) (bw : Binds K fdw ["log", "expression", "position"] [])
    (Ge : FnOk P w K mg base CX0 k fe fde ["statement", "word"] (sp_se K)) (ge : mg "slot_expression" = some (.ref fe)) (Ke : PySem.W.keepIn K (.ref fe) = true) (be : Binds K fde ["statement", "word"] [])
    (Gs : FnOk P w K mg base CX0 k fs fds ["log", "position"] (sp_sat K)) (gs : mg "statement_at" = some (.ref fs)) (Ks : PySem.W.keepIn K (.ref fs) = true) (bs : Binds K fds ["log", "position"] [])
    (Gk : FnOk P w K mg base CX0 k fk fdk ["expression", "other"] (sp_keyed K T)) (gk : mg "keyed" = some (.ref fk)) (Kk : PySem.W.keepIn K (.ref fk) = true) (bk : Binds K fdk ["expression", "other"] []) (mlen : mg "len" = none) :
    FnOk P w K mg base CX0 (k + 1) f fd ["log", "slot"] (sp_eo K T) := by
  have nd := sc_expression_of.nd
  refine F.ok sc_expression_of (fun vs H Q E h => ?_) (fun cdv A outer s H vs Q E hr h => ?_)
  · obtain ⟨p, sl, lo, ms, es, e, word, ko, xs, y, zs, sc, b, m, rfl, _⟩ := h
    rfl
  obtain ⟨p, sl, lo, ms, es, e, word, ko, xs, y, zs, sc, b, m, rfl, hL, C, hS, hT, q⟩ := h
  refine ⟨_, (pss_cons (ps_set (i := 2) nd rfl (.inl rfl) (pe_call Gw hr (by rfl) gw Kw bw .nil pass0 (pa_cons (pv 0) (pa_cons (pe_call Ge hr (by rfl) ge Ke be .nil pass0 (pa_cons (pe_call Gs hr (by rfl) gs Ks bs .nil pass0 (pa_cons (pv 0) (pa_cons (pe_ix ix_tup (pv 1) pe_int (fun _ _ => rfl)) pa_nil))) (pa_cons (pe_ix ix_tup (pv 1) pe_int (fun _ _ => rfl)) pa_nil))) (pa_cons (pe_ix ix_tup (pv 1) pe_int (fun _ _ => rfl)) pa_nil)))))
      (pss_cons (ps_if (pt_cmpR op_eq (pe_callB call_len_seq (by rfl) mlen PySem.boot_len (pa_cons (pv 1) pa_nil)) pe_int (nomark _))
      (pss_one (ps_ret (pe_call Gk hr (by rfl) gk Kk bk .nil pass0 (pa_cons (pv 2) (pa_cons (pe_tup (pa_cons pe_str (pa_cons (pe_ix ix_tup (pv 1) pe_int (fun _ _ => rfl)) pa_nil))) pa_nil)))))
      pss_nil)
      (pss_one (ps_ret (pv 2))))), ?_⟩
  have hst := stAt_at C.asc C.mem
  obtain ⟨mp, ep, rs, hL1, hL2, hL3, hL4⟩ := id hL
  have sv := sv_dp (ens_mem hL4 C.mem)
  have hfl := sv.2.flat
  have hdp := sv.1
  rw [C.xs'] at hdp hfl
  rw [flatD] at hfl
  have fy : flatD y = true := (C.cx.ex C.inz).flat
  have hex := C.cx.ex C.inz
  have hsz := Nat.le_trans (flatP_len hex) (bnd7 m C.dep)
  refine ⟨.ref p, rfl, .ref p, rfl, .ref sl, rfl, sl, _, 0, .int e.1, rfl, rfl, hS, at0, p, e.1, ms, es, rfl, hL, .ref sl, rfl, sl, _, 1, .str word, rfl, rfl, hS, at1, e.2.1, word, xs, y, by rw [hst]; rfl, hdp, hfl, C.slot, fun H1 v1 s1 hr1 => ?_⟩
  have k1 := KeepT.of s1
  refine ⟨.ref sl, rfl, sl, _, 0, .int e.1, rfl, rfl, k1.seqt hS, at0, p, v1, e.1, lo, ms, es, y, zs ++ sc, m, rfl, hL.keep k1, C.low, C.ml, C.el, hr1, hex, hsz, fun a ha => (hT a ha).ext s1, fun H2 v2 x2 hT2 hr2 => ?_⟩
  have k2 := k1.trans (KeepT.ext x2)
  have x02 := (ExtN.of s1).trans x2
  have hS2 := k2.seqt hS
  refine ⟨.ref sl, rfl, sl, _, rfl, .inr hS2, rfl, _, rfl, ?_⟩
  have hcv := C.cx.varW C.lets
  cases ko with
  | none => exact ite2 (fun z => absurd (V.int.inj (of_decide_eq_true z)) (by show ¬ ((2 : Nat) : Int) = 3; decide)) (fun _ => ⟨v2, rfl, q H2 v2 x02 hT2 hr2⟩)
  | some kk =>
    refine ite2 (fun _ => ?_) (fun z => absurd (by rfl) z)
    refine ⟨v2, rfl, .ref sl, rfl, sl, _, 2, .int kk, rfl, rfl, hS2, atI_nat rfl, h1000 (show 2 ≤ 1000 by decide), fun t nt => ?_⟩
    have st := same_upd (o := .tup [.str "int", .int kk]) nt
    have hex2 := hcv.ex (List.mem_cons_of_mem _ C.inz)
    have hsz2 := Nat.le_trans (flatP_len hex2) (bnd7 m C.dep)
    refine ⟨v2, .ref t, _, intD kk, _, m, rfl, hex2.kept (KeepT.of st) hr2, hex2, new_tup (.cons (.str "int") (.cons (.int kk) .nil)) rfl nt, rfl, hsz2, fun a ha => (hT2 a ha).ext st, fun H3 v3 x3 hT3 hr3 => q H3 v3 ((x02.trans (ExtN.of st)).trans x3) hT3 hr3⟩
end
end L19

namespace L19
open PySem PySem.Spec PyProof.Rows L2 GR WX TX RZ
/-- a slot: its word, its key, the expression of the statement, how deep -/
structure Slo where
  word : Str
  ko : Option Int
  y : PyData
  m : Nat
def slotsEach (t : Str) (x y : PyData) : List Int → List Slo
  | [] => []
  | k :: ks => ⟨"guard", some k, guardX t x, 7⟩ :: ⟨"value", some k, y, 6⟩ :: slotsEach t x y ks
def slotsOf (ks : List Int) : PyData → List Slo
  | .tuple [.str w, .str t, x, .str _, y] => if w = "put" then [⟨"key", none, x, 6⟩, ⟨"value", none, y, 6⟩] else slotsEach t x y ks
  | .tuple [.str w, x] => [⟨w, none, x, 6⟩]
  | .tuple [.str w, _, x] => [⟨w, none, x, 6⟩]
  | _ => []
theorem slotsOf_2 {ks : List Int} {w : Str} : ∀ x : PyData, slotsOf ks (.tuple [.str w, x]) = [⟨w, none, x, 6⟩] := fun x => by cases x <;> rfl
structure SloOk (ts cs sc : List Str) (x : PyData) (s : Slo) : Prop where
  form : ∃ xs, x = .tuple xs ∧ SlotOk s.word xs s.y
  cx : ∃ b, Cx (nmx 0 ts cs) sc b s.m s.y ∧ (s.ko = none → b = false)
  dep : s.m < 8
  key : ∀ k, s.ko = some k → -(10 ^ 18) ≤ k ∧ k ≤ 10 ^ 18
theorem nmx2 {ts cs : List Str} {z : Str} (h : z ∈ nmx 2 ts cs) : z ∈ nmx 0 ts cs := by
  simp only [nmx, mark, List.mem_cons, List.mem_append] at h ⊢
  rcases h with h | h | h | h
  · exact .inl h
  · exact .inr (.inl h)
  · exact .inr (.inr (.inl h))
  · exact absurd h (by simp)
theorem Cx.w2 {ts cs sc : List Str} {b : Bool} {n : Nat} {x : PyData} (h : Cx (nmx 2 ts cs) sc b n x) : Cx (nmx 0 ts cs) sc b n x := h.wide (fun z hz => nmx2 hz) (fun _ hz => hz)
theorem slotsEach_mem {t : Str} {x y : PyData} : ∀ {ks : List Int} {s : Slo}, s ∈ slotsEach t x y ks → ∃ k, k ∈ ks ∧ (s = ⟨"guard", some k, guardX t x, 7⟩ ∨ s = ⟨"value", some k, y, 6⟩)
  | [], s, h => (nomatch h)
  | k :: ks, s, h => by
    rw [slotsEach] at h
    rcases List.mem_cons.mp h with rfl | h
    · exact ⟨k, List.mem_cons_self, .inl rfl⟩
    rcases List.mem_cons.mp h with rfl | h
    · exact ⟨k, List.mem_cons_self, .inr rfl⟩
    obtain ⟨k', h1, h2⟩ := slotsEach_mem h
    exact ⟨k', List.mem_cons_of_mem _ h1, h2⟩
theorem guard_cx {ts cs sc : List Str} {t : Str} {x : PyData} (ht : t ∈ ts) (hh : ("#" : Str) ∉ ts) (h : Cx (nmx 0 ts cs) sc true 5 x) : Cx (nmx 0 ts cs) sc true 7 (guardX t x) := by
  refine .iff true 6 _ _ _ ?_ (h.mono (by decide)) (.int true 5 0 (by decide) (by decide))
  exact .cell true 5 t "in" _ ⟨List.mem_cons_of_mem _ (List.mem_append_left _ ht), fun e => hh (e ▸ ht)⟩ ⟨List.mem_cons_self, by decide⟩ (.key 4)
theorem slots_ok {ts cs sc : List Str} {x : PyData} {ks : List Int} (hh : ("#" : Str) ∉ ts) (hk : ∀ k, k ∈ ks → -(10 ^ 18) ≤ k ∧ k ≤ 10 ^ 18) (h : StX ts cs sc x) : ∀ s, s ∈ slotsOf ks x → SloOk ts cs sc x s := by
  intro s hs
  have one : ∀ {w : Str} {y : PyData} {pre : List PyData}, w ≠ "guard" → w ≠ "key" → x = .tuple (pre ++ [y]) → Cx (nmx 0 ts cs) sc false 6 y → s = ⟨w, none, y, 6⟩ → SloOk ts cs sc x s := fun {w y pre} h1 h2 h3 h4 e => by
    subst e
    exact ⟨⟨_, h3, .inr (.inr ⟨h1, h2, pre, rfl⟩)⟩, ⟨false, h4, fun _ => rfl⟩, (show 6 < 8 by decide), fun k e => (nomatch e)⟩
  cases h with
  | let_ z x h1 h2 h3 => exact one (w := "let") (pre := [.str "let", .str z]) (by decide) (by decide) rfl (h3.mono (by decide)) (List.mem_singleton.mp hs)
  | need x h3 =>
    refine one (w := "need") (pre := [.str "need"]) (by decide) (by decide) rfl ?_ (List.mem_singleton.mp hs)
    exact .op false 5 "<" _ _ (by decide) (.int false 4 _ (by decide) (by decide)) h3
  | tell x h3 => exact one (w := "tell") (pre := [.str "tell"]) (by decide) (by decide) rfl (h3.mono (by decide)) (List.mem_singleton.mp (by rw [slotsOf_2] at hs; exact hs))
  | each t z x y h1 h2 h3 h4 =>
    have hs : s ∈ slotsEach t x y ks := hs
    obtain ⟨k, hk', rfl | rfl⟩ := slotsEach_mem hs
    · exact ⟨⟨_, rfl, .inl ⟨rfl, t, x, rfl, rfl, rfl⟩⟩, ⟨true, guard_cx h1 hh h3.w2, fun e => (nomatch e)⟩, (show 7 < 8 by decide), fun k' e => by cases e; exact hk k hk'⟩
    · exact ⟨⟨_, rfl, .inr (.inr ⟨show ("value" : Str) ≠ "guard" by decide, show ("value" : Str) ≠ "key" by decide, [.str "each", .str t, x, .str z], rfl⟩)⟩, ⟨true, h4.w2.mono (show 5 ≤ 6 by decide), fun e => (nomatch e)⟩, (show 6 < 8 by decide), fun k' e => by cases e; exact hk k hk'⟩
  | put t z x y h1 h2 h3 h4 =>
    have hs : s ∈ ([⟨"key", none, x, 6⟩, ⟨"value", none, y, 6⟩] : List Slo) := hs
    simp only [List.mem_cons, List.not_mem_nil, or_false] at hs
    rcases hs with rfl | rfl
    · exact ⟨⟨_, rfl, .inr (.inl ⟨rfl, rfl⟩)⟩, ⟨false, h3.mono (show 5 ≤ 6 by decide), fun _ => rfl⟩, (show 6 < 8 by decide), fun k' e => (nomatch e)⟩
    · exact one (w := "value") (pre := [.str "put", .str t, x, .str z]) (by decide) (by decide) rfl (h4.mono (by decide)) rfl
/-- what is due of a slot -/
def DueOk (K : PySem.W.Frag) (H : Hp) (lz : Str → Option Int) (v : V) (s : Slo) : Prop := ∃ (a wp : Addr) (vd : V), v = .ref a ∧ H a = some (.tup [.ref wp, vd]) ∧ H wp = some (.tup (.str s.word :: keyVs s.ko)) ∧ Dp K H vd (pfE lz s.ko s.m s.y) ∧ flatD (pfE lz s.ko s.m s.y) = true
theorem DueOk.keep {K : PySem.W.Frag} {H H' : Hp} {lz : Str → Option Int} {v : V} {s : Slo} (h : DueOk K H lz v s) (k : KeepT H H') : DueOk K H' lz v s := by
  obtain ⟨a, wp, vd, rfl, h1, h2, h3, h4⟩ := h
  exact ⟨a, wp, vd, rfl, k.1 _ _ h1, k.1 _ _ h2, dp_keep k _ _ h4 h3, h4⟩
abbrev Dues (K : PySem.W.Frag) (H : Hp) (lz : Str → Option Int) : List V → List Slo → Prop := Paired (DueOk K H lz)
theorem Dues.keep {K : PySem.W.Frag} {H H' : Hp} {lz : Str → Option Int} (k : KeepT H H') : ∀ {us : List V} {ss : List Slo}, Dues K H lz us ss → Dues K H' lz us ss
  | _, _, .nil => .nil
  | _, _, .cons h t => .cons (h.keep k) (Dues.keep k t)
theorem Dues.app {K : PySem.W.Frag} {H : Hp} {lz : Str → Option Int} : ∀ {us vs : List V} {ss rs : List Slo}, Dues K H lz us ss → Dues K H lz vs rs → Dues K H lz (us ++ vs) (ss ++ rs)
  | _, _, _, _, .nil, h => h
  | _, _, _, _, .cons h t, g => .cons h (Dues.app t g)
theorem dues_len {K : PySem.W.Frag} {H : Hp} {lz : Str → Option Int} {us : List V} {ss : List Slo} (h : Dues K H lz us ss) : us.length = ss.length := Paired.length h
theorem pf_guard {lz : Str → Option Int} {k : Int} {t : Str} {x : PyData} : pfE lz (some k) 7 (guardX t x) = .tuple [.str "if", .tuple [.str "cell", .str t, intD k, .str "in"], pfE lz (some k) 6 x, intD 0] := by
  unfold guardX
  rw [pf_if, List.map_cons, List.map_cons, List.map_cons, List.map_nil]
  have e1 : pfE lz (some k) 6 (rowX t) = .tuple [.str "cell", .str t, intD k, .str "in"] := by
    unfold rowX
    rw [pf_cell, pf_key]
  have e2 : pfE lz (some k) 6 (intD 0) = intD 0 := pf_int
  rw [e1, e2]
section
variable {P : Program} {w : World} {K : PySem.W.Frag} {mg : Str → Option Value} {base : Heap}
theorem ok_pf {f : Addr} {fd : FuncData} {k : Nat} (F : Fun K "_law_put_for" "_law_put_for" s_law_put_for f fd) (g : mg "_law_put_for" = some (.ref f)) (Kf : PySem.W.keepIn K (.ref f) = true) (b : Binds K fd ps_pf []) (mtuple : mg "tuple" = none) : ∀ n, FnOk P w K mg base CX0 (k + n) f fd ps_pf (sp_pf K n)
  | 0 => ok_none fun vs H Q E h => by
    obtain ⟨v, da, ko, x, zs, sc, b, lz, _, _, hc, _⟩ := h
    cases hc
  | n + 1 => ok_pf_step (k := k + n) F (ok_pf F g Kf b mtuple n) g Kf b mtuple
end
end L19

namespace L19
open PySem PySem.Spec PyProof.Rows L2 GR WX TX RZ
theorem slotsEach_append {t : Str} {x y : PyData} : ∀ (a b : List Int), slotsEach t x y (a ++ b) = slotsEach t x y a ++ slotsEach t x y b
  | [], b => rfl
  | k :: a, b => by
    rw [List.cons_append, slotsEach, slotsEach, slotsEach_append a b]
    rfl
theorem slotsEach_len {t : Str} {x y : PyData} : ∀ (a : List Int), (slotsEach t x y a).length = 2 * a.length
  | [] => rfl
  | k :: a => by
    rw [slotsEach, List.length_cons, List.length_cons, slotsEach_len a, List.length_cons]
    omega
/-- any walk over a list -/
theorem lwalk {K : PySem.W.Frag} {a : Addr} {xs : List V} {body : V → Hp → (Hp → Prop) → Prop} {H0 : Hp} {Qd : Hp → Prop} (Pv : Nat → Hp → Prop) (h0 : Pv 0 H0) (hl : ∀ i H, i ≤ xs.length → Pv i H → SqL K H a xs)
    (hs : ∀ i x H, xs[i]? = some x → Pv i H → body x H (Pv (i + 1))) (hd : ∀ H, Pv xs.length H → Qd H) :
    ∃ W : Nat → Nat → Hp → Prop, (∃ m, W 0 m H0) ∧ ∀ i m H, W i m H → ((Itl K a).stop i H ∧ Qd H) ∨ ((Itl K a).go i H ∧ ∃ Nx : Hp → Prop, (∀ H', Nx H' → ∃ m', m' < m ∧ W (i + 1) m' H') ∧ ∀ x H', (Itl K a).yld i H x H' → body x H' Nx) := walk_body Pv h0 hl hs hd
abbrev s_law_due : Stmt := topS 35
abbrev N_due : List Str := ["_law_statement_here", "_law_lets", "_law_keys", "_law_word", "_law_pairs", "_law_found", "_law_key", "_law_there", "_law_words", "_law_thing"]
abbrev ps_due : List Str := ["_law_statement_here", "_law_lets", "_law_keys"]
theorem sc_law_due : FnScope N_due ps_due (defScope s_law_due) := ⟨rfl, rfl, rfl, by decide +kernel, rfl, by decide +kernel, by decide +kernel⟩
def sp_due (K : PySem.W.Frag) : Sp := fun vs H Q _ => ∃ (v : V) (da kl : Addr) (x : PyData) (ts cs sc : List Str) (ks : List Int) (lz : Str → Option Int), vs = [v, .ref da, .ref kl] ∧ Dp K H v x ∧ StX ts cs sc x ∧ ("#" : Str) ∉ ts ∧ PfC H da none (nmx 0 ts cs) sc lz ∧ H kl = some (.lst (ks.map V.int)) ∧ ks.length ≤ 10 ∧ (∀ k, k ∈ ks → -(10 ^ 18) ≤ k ∧ k ≤ 10 ^ 18) ∧
  ∀ H' p us, Same H H' → H p = none → H' p = some (.lst us) → Dues K H' lz us (slotsOf ks x) → Q (.ref p) H'
section
variable {P : Program} {w : World} {K : PySem.W.Frag} {mg : Str → Option Value} {base : Heap}
theorem ok_due {f fp : Addr} {fd fdp : FuncData} {k : Nat} (F : Fun K "_law_due" "_law_due" s_law_due f fd) (G : FnOk P w K mg base CX0 k fp fdp ps_pf (sp_pf K 6)) (g : mg "_law_put_for" = some (.ref fp)) (Kf : PySem.W.keepIn K (.ref fp) = true) (b : Binds K fdp ps_pf []) :
    FnOk P w K mg base CX0 (k + 1) f fd ps_due (sp_due K) := by
  have nd := sc_law_due.nd
  refine F.ok sc_law_due (fun vs H Q E h => ?_) (fun cdv A outer s H vs Q E hr h => ?_)
  · obtain ⟨v, da, kl, x, ts, cs, sc, ks, lz, rfl, _⟩ := h
    rfl
  obtain ⟨v, da, kl, x, ts, cs, sc, ks, lz, rfl, hd, hx, hh, C, hkl, hkn, hkb, q⟩ := h
  refine ⟨_, (pss_cons (ps_set (i := 3) nd rfl (.inl rfl) (pe_ix ix_tup (pv 0) pe_int (fun _ _ => rfl)))
      (pss_cons (ps_if (pt_cmpR op_eq (pv 3) pe_str (nomark _))
      (pss_cons (ps_set (i := 4) nd rfl (.inl rfl) (pe_lst (pa_cons (pe_tup (pa_cons (pe_tup (pa_cons pe_str pa_nil)) (pa_cons (pe_ix ix_tup (pv 0) pe_int (fun _ _ => rfl)) pa_nil))) (pa_cons (pe_tup (pa_cons (pe_tup (pa_cons pe_str pa_nil)) (pa_cons (pe_ix ix_tup (pv 0) pe_int (fun _ _ => rfl)) pa_nil))) pa_nil))))
        (pss_one (ps_ret (pe_lc (own := [("_law_words", 8), ("_law_thing", 9)]) (g := gTup K 2 (gCons (gName 8) (gCons (gName 9) gNil))) (tt := tYes) (te := tTup (tCons (tVar 8) (tCons (tCall (sp_pf K 6) [] E0 (tCons (tVar 9) (tCons (tVar 1) (tCons (tC .non) tNil)))) tNil))) rfl nd (pi_list (pv 4)) (blkOk_by (N := N_due) (sc := defScope s_law_due) (by decide +kernel)) (fun _ _ _ _ _ => (pg_tup rfl (pgs_cons (pg_name (i := 8) (x := "_law_words") nd rfl (Or.inl rfl)) (pgs_cons (pg_name (i := 9) (x := "_law_thing") nd rfl (Or.inl rfl)) pgs_nil)))) (fun _ _ _ _ _ => pts_nil) (fun _ _ _ _ _ => (pe_tup (pa_cons (pv 8) (pa_cons (pe_call G hr (by rfl) g Kf b .nil pass0 (pa_cons (pv 9) (pa_cons (pv 1) (pa_cons pe_non pa_nil)))) pa_nil))))))))
      pss_nil)
      (pss_cons (ps_if (pt_cmpR op_ne (pv 3) pe_str (nomark _))
      (pss_one (ps_ret (pe_lst (pa_cons (pe_tup (pa_cons (pe_tup (pa_cons (pv 3) pa_nil)) (pa_cons (pe_call G hr (by rfl) g Kf b .nil pass0 (pa_cons (pe_ix ix_tup (pv 0) (pe_un un_neg pe_int) (fun _ _ => rfl)) (pa_cons (pv 1) (pa_cons pe_non pa_nil)))) pa_nil))) pa_nil))))
      pss_nil)
      (pss_cons (ps_set (i := 5) nd rfl (.inl rfl) (pe_lst pa_nil))
      (pss_cons (ps_for PassesOwn.never rfl (pi_list (pv 2)) (pg_name (i := 6) nd rfl (Or.inl rfl))
      (pss_cons (ps_set (i := 7) nd rfl (.inl rfl) (pe_tup (pa_cons pe_str (pa_cons (pe_ix ix_tup (pv 0) pe_int (fun _ _ => rfl)) (pa_cons (pe_tup (pa_cons pe_str (pa_cons (pv 6) pa_nil))) (pa_cons pe_str pa_nil))))))
        (pss_cons (ps_expr (pe_bm PySem.F.plainAttrs_list PySem.F.slot_list_append PySem.F.type_list_append mt_append (pv 5) (pa_cons (pe_tup (pa_cons (pe_tup (pa_cons pe_str (pa_cons (pv 6) pa_nil))) (pa_cons (pe_tup (pa_cons pe_str (pa_cons (pv 7) (pa_cons (pe_call G hr (by rfl) g Kf b .nil pass0 (pa_cons (pe_ix ix_tup (pv 0) pe_int (fun _ _ => rfl)) (pa_cons (pv 1) (pa_cons (pv 6) pa_nil)))) (pa_cons (pe_tup (pa_cons pe_str (pa_cons pe_int pa_nil))) pa_nil))))) pa_nil))) pa_nil)))
        (pss_one (ps_expr (pe_bm PySem.F.plainAttrs_list PySem.F.slot_list_append PySem.F.type_list_append mt_append (pv 5) (pa_cons (pe_tup (pa_cons (pe_tup (pa_cons pe_str (pa_cons (pv 6) pa_nil))) (pa_cons (pe_call G hr (by rfl) g Kf b .nil pass0 (pa_cons (pe_ix ix_tup (pv 0) pe_int (fun _ _ => rfl)) (pa_cons (pv 1) (pa_cons (pv 6) pa_nil)))) pa_nil))) pa_nil)))))))
      (pss_one (ps_ret (pv 5)))))))), ?_⟩
  have same0 : Same H H := fun _ _ e => e
  -- one slot
  have fin : ∀ {wd : Str} {u : V} {y : PyData} {p1 : Addr}, H p1 = none → Dp K H u y → Cx (nmx 0 ts cs) sc false 6 y → slotsOf ks x = [⟨wd, none, y, 6⟩] → ∀ {H2 : Hp} {v' : V}, Same (upd H p1 (.tup [.str wd])) H2 → Dp K H2 v' (pfE lz none 6 y) → ∀ p2, H2 p2 = none → ∀ p3, upd H2 p2 (.tup [.ref p1, v']) p3 = none → Q (.ref p3) (upd (upd H2 p2 (.tup [.ref p1, v'])) p3 (.lst [.ref p2])) := by
    intro wd u y p1 n1 hu hc hsl H2 v' s2 hr2 p2 n2 p3 n3
    have s1 := same_upd (o := .tup [.str wd]) n1
    have s12 := s1.trans s2
    have s3 := same_upd (o := .tup [.ref p1, v']) n2
    have s4 := same_upd (o := .lst [.ref p2]) n3
    have fpf := C.flat hc
    refine q _ p3 _ ((s12.trans s3).trans s4) (s12.free (s3.free n3)) upd_same ?_
    rw [hsl]
    exact .cons ⟨p2, p1, v', rfl, s4 _ _ upd_same, s4 _ _ (s3 _ _ (s2 _ _ upd_same)), dp_keep (KeepT.of (s3.trans s4)) _ _ fpf hr2, fpf⟩ .nil
  cases hx with
  | let_ z x h1 h2 h3 =>
    cases hd with
    | tup hS hB =>
    cases hB with
    | cons hw hB =>
    cases hw
    cases hB with
    | cons hz hB =>
    cases hB with
    | cons hu hB =>
    cases hB
    rename_i a vz u
    have h3' := h3.mono (show 5 ≤ 6 by decide)
    refine ⟨.ref a, rfl, a, _, 0, .str "let", rfl, rfl, hS, at0, .str "let", rfl, rfl, _, rfl, no_w (by decide) ⟨.str "let", rfl, rfl, _, rfl, ite2 (fun _ => ?_) (fun e => absurd (by decide) e)⟩⟩
    exact ⟨.str "let", rfl, h1000 (show 1 ≤ 1000 by decide), fun p1 n1 => ⟨.ref a, rfl, 1, rfl, a, _, -1, u, rfl, rfl, (KeepT.non n1).seqt hS, atI_last [.str "let", vz] u, .ref da, rfl, u, da, none, x, nmx 0 ts cs, sc, false, lz, rfl, dp_keep (KeepT.non n1) _ _ (h3'.ex C.inz).flat hu, h3', C.same (same_upd n1), fun H2 v' s2 hr2 => ⟨h1000 (show 2 ≤ 1000 by decide), fun p2 n2 => ⟨h1000 (show 1 ≤ 1000 by decide), fun p3 n3 => fin n1 hu h3' rfl s2 hr2 p2 n2 p3 n3⟩⟩⟩⟩
  | need x h3 =>
    cases hd with
    | tup hS hB =>
    cases hB with
    | cons hw hB =>
    cases hw
    cases hB with
    | cons hu hB =>
    cases hB
    rename_i a u
    have h3' : Cx (nmx 0 ts cs) sc false 6 (.tuple [.str "<", .tuple [.str "int", .int (0 - 3)], x]) := .op false 5 "<" _ _ (by decide) (.int false 4 _ (by decide) (by decide)) h3
    refine ⟨.ref a, rfl, a, _, 0, .str "need", rfl, rfl, hS, at0, .str "need", rfl, rfl, _, rfl, no_w (by decide) ⟨.str "need", rfl, rfl, _, rfl, ite2 (fun _ => ?_) (fun e => absurd (by decide) e)⟩⟩
    exact ⟨.str "need", rfl, h1000 (show 1 ≤ 1000 by decide), fun p1 n1 => ⟨.ref a, rfl, 1, rfl, a, _, -1, u, rfl, rfl, (KeepT.non n1).seqt hS, atI_last [.str "need"] u, .ref da, rfl, u, da, none, _, nmx 0 ts cs, sc, false, lz, rfl, dp_keep (KeepT.non n1) _ _ (h3'.ex C.inz).flat hu, h3', C.same (same_upd n1), fun H2 v' s2 hr2 => ⟨h1000 (show 2 ≤ 1000 by decide), fun p2 n2 => ⟨h1000 (show 1 ≤ 1000 by decide), fun p3 n3 => fin n1 hu h3' (slotsOf_2 _) s2 hr2 p2 n2 p3 n3⟩⟩⟩⟩
  | tell x h3 =>
    cases hd with
    | tup hS hB =>
    cases hB with
    | cons hw hB =>
    cases hw
    cases hB with
    | cons hu hB =>
    cases hB
    rename_i a u
    have h3' := h3.mono (show 5 ≤ 6 by decide)
    refine ⟨.ref a, rfl, a, _, 0, .str "tell", rfl, rfl, hS, at0, .str "tell", rfl, rfl, _, rfl, no_w (by decide) ⟨.str "tell", rfl, rfl, _, rfl, ite2 (fun _ => ?_) (fun e => absurd (by decide) e)⟩⟩
    exact ⟨.str "tell", rfl, h1000 (show 1 ≤ 1000 by decide), fun p1 n1 => ⟨.ref a, rfl, 1, rfl, a, _, -1, u, rfl, rfl, (KeepT.non n1).seqt hS, atI_last [.str "tell"] u, .ref da, rfl, u, da, none, _, nmx 0 ts cs, sc, false, lz, rfl, dp_keep (KeepT.non n1) _ _ (h3'.ex C.inz).flat hu, h3', C.same (same_upd n1), fun H2 v' s2 hr2 => ⟨h1000 (show 2 ≤ 1000 by decide), fun p2 n2 => ⟨h1000 (show 1 ≤ 1000 by decide), fun p3 n3 => fin n1 hu h3' (slotsOf_2 _) s2 hr2 p2 n2 p3 n3⟩⟩⟩⟩
  | each t z x y h1 h2 h3 h4 =>
    cases hd with
    | tup hS hB =>
    cases hB with
    | cons hw hB =>
    cases hw
    cases hB with
    | cons ht hB =>
    cases ht
    cases hB with
    | cons hu hB =>
    cases hB with
    | cons hz hB =>
    cases hz
    cases hB with
    | cons hy hB =>
    cases hB
    rename_i a u vy
    have c3 := h3.w2.mono (show 5 ≤ 6 by decide)
    have c4 := h4.w2.mono (show 5 ≤ 6 by decide)
    have fx := (c3.ex C.inz).flat
    have fy := (c4.ex C.inz).flat
    refine ⟨.ref a, rfl, a, _, 0, .str "each", rfl, rfl, hS, at0, .str "each", rfl, rfl, _, rfl, no_w (by decide) ⟨.str "each", rfl, rfl, _, rfl, ite2 (fun e => absurd e (by decide)) (fun _ => ?_)⟩⟩
    refine ⟨Nat.zero_le _, fun fo nfo => ?_⟩
    have sf := same_upd (o := .lst []) nfo
    have hfo : upd H fo (.lst []) fo = some (.lst []) := upd_same
    have hkf : kl ≠ fo := ne_of_none hkl nfo
    refine ⟨.ref kl, rfl, kl, rfl, ⟨_, .inl (.inl (sf _ _ hkl))⟩, ?_⟩
    refine for_list (xs := ks.map V.int) (fun i σ H' => ∃ (y6 y7 : Option V) (acc : List V), σ = [some (.ref a), some (.ref da), some (.ref kl), some (.str "each"), none, some (.ref fo), y6, y7, none, none] ∧ H' fo = some (.lst acc) ∧ acc.length = 2 * i ∧ Dues K H' lz acc (slotsEach t x y (ks.take i)) ∧ ∀ b ob, b ≠ fo → H b = some ob → H' b = some ob) ?_ ?_ ?_ ?_
    · refine ⟨none, none, [], rfl, hfo, rfl, ?_, fun b ob hb e => by rw [upd_ne hb]; exact e⟩
      rw [List.take_zero]
      exact .nil
    · rintro i σ H' _ ⟨y6, y7, acc, rfl, hf, hl, hD, kk⟩
      exact .inl (.inl (kk _ _ hkf hkl))
    · rintro i kv σ H' hkv ⟨y6, y7, acc, rfl, hf, hl, hD, kk⟩
      rw [List.getElem?_map] at hkv
      obtain ⟨kk1, hk1, rfl⟩ := Option.map_eq_some_iff.mp hkv
      have hkmem := List.mem_of_getElem? hk1
      have hi : i < ks.length := (List.getElem?_eq_some_iff.mp hk1).1
      have sH : Same H H' := fun b ob e => kk b ob (ne_of_none e nfo) e
      have Ck : PfC H' da (some kk1) (nmx 0 ts cs) sc lz := ⟨fun k' e => by cases e; exact hkb kk1 hkmem, C.inz, C.nop, (C.same sH).lets⟩
      -- there
      refine ⟨.ref a, rfl, a, _, 1, .str t, rfl, rfl, (KeepT.of sH).seqt hS, at1, .int kk1, rfl, h1000 (show 2 ≤ 1000 by decide), fun q1 m1 => ⟨h1000 (show 4 ≤ 1000 by decide), fun q2 m2 => ?_⟩⟩
      have b1 := new_tup (K := K) (.cons (.str "int") (.cons (.int kk1) .nil)) rfl m1
      have b2 := new_tup (K := K) (.cons (.str "cell") (.cons (.str t) (.cons b1 (.cons (.str "in") .nil)))) rfl m2
      have t12 := (same_upd (o := .tup [.str "int", .int kk1]) m1).trans (same_upd (o := .tup [.str "cell", .str t, .ref q1, .str "in"]) m2)
      revert b2 t12
      generalize upd (upd H' q1 (.tup [.str "int", .int kk1])) q2 (.tup [.str "cell", .str t, .ref q1, .str "in"]) = H1
      intro b2 t12
      have hf1 := t12 _ _ hf
      -- the guard's words
      refine ⟨.ref fo, rfl, .inl ⟨rfl, _, .inl (.inl hf1)⟩, .int kk1, rfl, h1000 (show 2 ≤ 1000 by decide), fun w1 n1 => ?_⟩
      have t1 := same_upd (o := .tup [.str "guard", .int kk1]) n1
      have hw1 : upd H1 w1 (.tup [.str "guard", .int kk1]) w1 = some (.tup [.str "guard", .int kk1]) := upd_same
      have b2a := dp_keep (KeepT.of t1) _ _ rfl b2
      have t13 := t12.trans t1
      revert hw1 b2a t13
      generalize upd H1 w1 (.tup [.str "guard", .int kk1]) = H2
      intro hw1 b2a t13
      have s02 := sH.trans t13
      refine ⟨.ref q2, rfl, .ref a, rfl, a, _, 2, u, rfl, rfl, (KeepT.of s02).seqt hS, atI_nat rfl, .ref da, rfl, .int kk1, rfl, u, da, some kk1, x, nmx 0 ts cs, sc, true, lz, rfl, dp_keep (KeepT.of s02) _ _ fx hu, c3, Ck.same t13, fun H3 v3 s3 hr3 => ?_⟩
      have f3 := Ck.flat c3
      refine ⟨h1000 (show 2 ≤ 1000 by decide), fun q3 m3 => ⟨h1000 (show 4 ≤ 1000 by decide), fun q4 m4 => ⟨h1000 (show 2 ≤ 1000 by decide), fun q5 m5 => ?_⟩⟩⟩
      have b3 := new_tup (K := K) (.cons (.str "int") (.cons (.int 0) .nil)) rfl m3
      have e3 := same_upd (o := .tup [.str "int", .int 0]) m3
      have fg : flatD (.tuple [.str "if", .tuple [.str "cell", .str t, intD kk1, .str "in"], pfE lz (some kk1) 6 x, intD 0]) = true := by
        simp only [flatD, flatDs, f3, intD, Bool.and_self]
      have b4 := new_tup (K := K) (.cons (.str "if") (.cons (dp_keep (KeepT.of (s3.trans e3)) _ _ rfl b2a) (.cons (dp_keep (KeepT.of e3) _ _ f3 hr3) (.cons b3 .nil)))) (by rw [flatD] at fg; exact fg) m4
      have e4 := same_upd (o := .tup [.str "if", .ref q2, v3, .ref q3]) m4
      have e5 := same_upd (o := .tup [.ref w1, .ref q4]) m5
      have hq5 : upd (upd (upd H3 q3 (.tup [.str "int", .int 0])) q4 (.tup [.str "if", .ref q2, v3, .ref q3])) q5 (.tup [.ref w1, .ref q4]) q5 = some (.tup [.ref w1, .ref q4]) := upd_same
      have b4a := dp_keep (KeepT.of e5) _ _ fg b4
      have s35 := s3.trans ((e3.trans e4).trans e5)
      revert hq5 b4a s35
      generalize upd (upd (upd H3 q3 (.tup [.str "int", .int 0])) q4 (.tup [.str "if", .ref q2, v3, .ref q3])) q5 (.tup [.ref w1, .ref q4]) = H4
      intro hq5 b4a s35
      have s14 := t13.trans s35
      have hf4 := s14 _ _ hf
      have due1 : DueOk K H4 lz (.ref q5) ⟨"guard", some kk1, guardX t x, 7⟩ := ⟨q5, w1, .ref q4, rfl, hq5, s35 _ _ hw1, by rw [pf_guard]; exact b4a, by rw [pf_guard]; exact fg⟩
      have D4 := hD.keep (KeepT.of s14)
      refine ⟨fo, acc, .ref q5, rfl, rfl, hf4, small1000 (by omega), ?_⟩
      have k5 : KeepT H4 (upd H4 fo (.lst (acc ++ [.ref q5]))) := KeepT.lst hf4
      have hf5 : upd H4 fo (.lst (acc ++ [.ref q5])) fo = some (.lst (acc ++ [.ref q5])) := upd_same
      have kk5 : ∀ b ob, b ≠ fo → H b = some ob → upd H4 fo (.lst (acc ++ [.ref q5])) b = some ob := fun b ob hb e => by
        rw [upd_ne hb]
        exact s14 _ _ (kk b ob hb e)
      have D5 := (Dues.app D4 (.cons due1 .nil)).keep k5
      revert hf5 kk5 D5
      generalize upd H4 fo (.lst (acc ++ [.ref q5])) = H5
      intro hf5 kk5 D5
      have s5 : Same H H5 := fun b ob e => kk5 b ob (ne_of_none e nfo) e
      have C5 : PfC H5 da (some kk1) (nmx 0 ts cs) sc lz := ⟨Ck.key, C.inz, C.nop, (C.same s5).lets⟩
      refine ⟨.ref fo, rfl, .inl ⟨rfl, _, .inl (.inl hf5)⟩, .int kk1, rfl, h1000 (show 2 ≤ 1000 by decide), fun w2 n2 => ?_⟩
      have t2 := same_upd (o := .tup [.str "value", .int kk1]) n2
      have hw2 : upd H5 w2 (.tup [.str "value", .int kk1]) w2 = some (.tup [.str "value", .int kk1]) := upd_same
      revert t2 hw2
      generalize upd H5 w2 (.tup [.str "value", .int kk1]) = H6
      intro t2 hw2
      have s06 := s5.trans t2
      refine ⟨.ref a, rfl, a, _, 4, vy, rfl, rfl, (KeepT.of s06).seqt hS, atI_nat rfl, .ref da, rfl, .int kk1, rfl, vy, da, some kk1, y, nmx 0 ts cs, sc, true, lz, rfl, dp_keep (KeepT.of s06) _ _ fy hy, c4, C5.same t2, fun H7 v7 s7 hr7 => ⟨h1000 (show 2 ≤ 1000 by decide), fun q6 m6 => ?_⟩⟩
      have f4 := Ck.flat c4
      have e6 := same_upd (o := .tup [.ref w2, v7]) m6
      have s58 := t2.trans (s7.trans e6)
      have hf8 := s58 _ _ hf5
      have due2 : DueOk K (upd H7 q6 (.tup [.ref w2, v7])) lz (.ref q6) ⟨"value", some kk1, y, 6⟩ := ⟨q6, w2, v7, rfl, upd_same, e6 _ _ (s7 _ _ hw2), dp_keep (KeepT.of e6) _ _ f4 hr7, f4⟩
      have D8 := D5.keep (KeepT.of s58)
      refine ⟨fo, _, .ref q6, rfl, rfl, hf8, small1000 (by rw [List.length_append, List.length_singleton]; omega), ?_⟩
      have k9 : KeepT (upd H7 q6 (.tup [.ref w2, v7])) (upd (upd H7 q6 (.tup [.ref w2, v7])) fo (.lst (acc ++ [.ref q5] ++ [.ref q6]))) := KeepT.lst hf8
      refine ⟨_, _, acc ++ [.ref q5] ++ [.ref q6], rfl, upd_same, by rw [List.length_append, List.length_append, List.length_singleton, List.length_singleton]; omega, ?_, fun b ob hb e => ?_⟩
      · rw [take_snoc hk1, slotsEach_append]
        have e9 : slotsEach t x y (ks.take i) ++ slotsEach t x y [kk1] = slotsEach t x y (ks.take i) ++ [⟨"guard", some kk1, guardX t x, 7⟩] ++ [⟨"value", some kk1, y, 6⟩] := by
          rw [List.append_assoc]
          rfl
        rw [e9]
        exact (Dues.app D8 (.cons due2 .nil)).keep k9
      · rw [upd_ne hb]
        exact s58 _ _ (kk5 b ob hb e)
    · rintro σ H' ⟨y6, y7, acc, rfl, hf, hl, hD, kk⟩
      rw [List.length_map, List.take_length] at hD
      exact ⟨.ref fo, rfl, q H' fo acc (fun b ob e => kk b ob (ne_of_none e nfo) e) nfo hf hD⟩
  | put t z x y h1 h2 h3 h4 =>
    cases hd with
    | tup hS hB =>
    cases hB with
    | cons hw hB =>
    cases hw
    cases hB with
    | cons ht hB =>
    cases ht
    cases hB with
    | cons hu hB =>
    cases hB with
    | cons hz hB =>
    cases hz
    cases hB with
    | cons hy hB =>
    cases hB
    rename_i a u vy
    have c3 := h3.mono (show 5 ≤ 6 by decide)
    have c4 := h4.mono (show 5 ≤ 6 by decide)
    have fx := (c3.ex C.inz).flat
    have fy := (c4.ex C.inz).flat
    refine ⟨.ref a, rfl, a, _, 0, .str "put", rfl, rfl, hS, at0, .str "put", rfl, rfl, _, rfl, yes_w rfl ?_⟩
    refine ⟨h1000 (show 1 ≤ 1000 by decide), fun w1 n1 => ?_⟩
    have t1 := same_upd (o := .tup [.str "key"]) n1
    have hw1 : upd H w1 (.tup [.str "key"]) w1 = some (.tup [.str "key"]) := upd_same
    refine ⟨.ref a, rfl, a, _, 2, u, rfl, rfl, (KeepT.of t1).seqt hS, atI_nat rfl, h1000 (show 2 ≤ 1000 by decide), fun q1 m1 => ⟨h1000 (show 1 ≤ 1000 by decide), fun w2 n2 => ?_⟩⟩
    have t2 := same_upd (o := .tup [.ref w1, u]) m1
    have t3 := same_upd (o := .tup [.str "value"]) n2
    refine ⟨.ref a, rfl, a, _, 4, vy, rfl, rfl, (KeepT.of (t1.trans (t2.trans t3))).seqt hS, atI_nat rfl, h1000 (show 2 ≤ 1000 by decide), fun q2 m2 => ⟨h1000 (show 2 ≤ 1000 by decide), fun L nL => ?_⟩⟩
    have t4 := same_upd (o := .tup [.ref w2, vy]) m2
    have t5 := same_upd (o := .lst [.ref q1, .ref q2]) nL
    have s1 := t1.trans (t2.trans (t3.trans (t4.trans t5)))
    have a1 := (t2.trans (t3.trans (t4.trans t5))) _ _ hw1
    have a2 := (t3.trans (t4.trans t5)) _ _ (show upd (upd H w1 (.tup [.str "key"])) q1 (.tup [.ref w1, u]) q1 = _ from upd_same)
    have a3 := (t4.trans t5) _ _ (show upd (upd (upd H w1 (.tup [.str "key"])) q1 (.tup [.ref w1, u])) w2 (.tup [.str "value"]) w2 = _ from upd_same)
    have a4 := t5 _ _ (show upd (upd (upd (upd H w1 (.tup [.str "key"])) q1 (.tup [.ref w1, u])) w2 (.tup [.str "value"])) q2 (.tup [.ref w2, vy]) q2 = _ from upd_same)
    have a5 : upd (upd (upd (upd (upd H w1 (.tup [.str "key"])) q1 (.tup [.ref w1, u])) w2 (.tup [.str "value"])) q2 (.tup [.ref w2, vy])) L (.lst [.ref q1, .ref q2]) L = some (.lst [.ref q1, .ref q2]) := upd_same
    clear t1 hw1 t2 t3 t4 t5 n1 m1 n2 m2 nL
    revert s1 a1 a2 a3 a4 a5
    generalize upd (upd (upd (upd (upd H w1 (.tup [.str "key"])) q1 (.tup [.ref w1, u])) w2 (.tup [.str "value"])) q2 (.tup [.ref w2, vy])) L (.lst [.ref q1, .ref q2]) = H1
    intro s1 a1 a2 a3 a4 a5
    have hpairs : ∀ (i : Nat) (v : V), ([.ref q1, .ref q2] : List V)[i]? = some v → ∃ (q wq : Addr) (vq : V) (sl : Slo), v = .ref q ∧ H1 q = some (.tup [.ref wq, vq]) ∧ H1 wq = some (.tup [.str sl.word]) ∧ ([⟨"key", none, x, 6⟩, ⟨"value", none, y, 6⟩] : List Slo)[i]? = some sl ∧ sl.ko = none ∧ sl.m = 6 ∧ Dp K H1 vq sl.y ∧ Cx (nmx 0 ts cs) sc false 6 sl.y := by
      intro i v e
      match i, e with
      | 0, e =>
        cases e
        exact ⟨q1, w1, u, ⟨"key", none, x, 6⟩, rfl, a2, a1, rfl, rfl, rfl, dp_keep (KeepT.of s1) _ _ fx hu, c3⟩
      | 1, e =>
        cases e
        exact ⟨q2, w2, vy, ⟨"value", none, y, 6⟩, rfl, a4, a3, rfl, rfl, rfl, dp_keep (KeepT.of s1) _ _ fy hy, c4⟩
      | i + 2, e => simp at e
    refine ⟨.ref L, rfl, L, rfl, ⟨_, .inl (.inl a5)⟩, fun D nD => ?_⟩
    have hLD : L ≠ D := ne_of_none a5 nD
    refine lwalk (xs := [.ref q1, .ref q2]) (fun i H' => ∃ acc, H' D = some (.lst acc) ∧ acc.length = i ∧ Dues K H' lz acc (([⟨"key", none, x, 6⟩, ⟨"value", none, y, 6⟩] : List Slo).take i) ∧ Same H1 H') ?_ ?_ ?_ ?_
    · exact ⟨[], upd_same, rfl, .nil, same_upd nD⟩
    · rintro i H' _ ⟨acc, hD, hl, hR, sm⟩
      exact .inl (.inl (sm _ _ a5))
    · rintro i v H' hv ⟨acc, hD, hl, hR, sm⟩
      obtain ⟨qq, wq, vq, sl, rfl, e1, e2, e3, e4, e5, e6, e7⟩ := hpairs i v hv
      have hi : i < 2 := (List.getElem?_eq_some_iff.mp hv).1
      refine ⟨qq, [.ref wq, vq], rfl, .inl (.inl (sm _ _ e1)), rfl, _, _, rfl, _, _, rfl, rfl, ?_⟩
      refine ⟨rfl, yes_then ⟨.ref wq, rfl, vq, rfl, .ref da, rfl, vq, da, none, sl.y, nmx 0 ts cs, sc, false, lz, rfl, dp_keep (KeepT.of sm) _ _ (e7.ex C.inz).flat e6, e7, C.same (s1.trans sm), fun H2 v' s2 hr2 => ⟨h1000 (show 2 ≤ 1000 by decide), fun p2 n2 => ?_⟩⟩⟩
      have s3 := same_upd (o := .tup [.ref wq, v']) n2
      have s23 := s2.trans s3
      have hD3 := s23 _ _ hD
      have kD : KeepT (upd H2 p2 (.tup [.ref wq, v'])) (upd (upd H2 p2 (.tup [.ref wq, v'])) D (.lst (acc ++ [.ref p2]))) := KeepT.lst hD3
      have fpf := C.flat e7
      have due : DueOk K (upd H2 p2 (.tup [.ref wq, v'])) lz (.ref p2) sl := by
        refine ⟨p2, wq, v', rfl, upd_same, ?_, ?_, ?_⟩
        · rw [e4]
          exact s23 _ _ (sm _ _ e2)
        · rw [e4, e5]
          exact dp_keep (KeepT.of s3) _ _ fpf hr2
        · rw [e4, e5]
          exact fpf
      refine ⟨acc, hD3, small1000 (by omega), acc ++ [.ref p2], upd_same, by rw [List.length_append, hl]; rfl, ?_, fun b ob e => ?_⟩
      · rw [take_snoc e3]
        exact (Dues.app (hR.keep (KeepT.of s23)) (.cons due .nil)).keep kD
      · rw [upd_ne (ne_of_none e nD)]
        exact s23 _ _ (sm _ _ e)
    · rintro H' ⟨acc, hD, hl, hR, sm⟩
      have sH := s1.trans sm
      exact q H' D acc sH (s1.free nD) hD hR
end
end L19

namespace L19
open PySem PySem.Spec PyProof.Rows L2 GR WX TX RZ NdefX LamX
theorem merge_val {PV : V → Prop} : ∀ (more acc : List (Key × V)), (∀ k v, valV acc k = some v → PV v) → (∀ x, x ∈ more → PV x.2) → ∀ k v, valV (mergeK acc more) k = some v → PV v
  | [], acc, h, _, k, v, e => h k v e
  | x :: more, acc, h, h2, k, v, e => by
    refine merge_val more (putK acc x.1 x.2) (fun k' v' e' => ?_) (fun y hy => h2 y (List.mem_cons_of_mem _ hy)) k v e
    rw [valV_put] at e'
    split at e'
    · cases e'
      exact h2 x List.mem_cons_self
    · exact h k' v' e'
theorem low_at {ms : List Int} (hm : ms.Pairwise (· ≤ ·)) {j : Nat} {lo hi n : Int} (h1 : ms[j]? = some lo) (h2 : ms[j + 1]? = some hi) (a : lo ≤ n) (b : n < hi) : LowM ms n lo := by
  refine ⟨List.mem_of_getElem? h1, a, fun m hmem hmn => ?_⟩
  obtain ⟨i, hi', e⟩ := List.mem_iff_getElem.mp hmem
  obtain ⟨k1, e1⟩ := List.getElem?_eq_some_iff.mp h1
  obtain ⟨k2, e2⟩ := List.getElem?_eq_some_iff.mp h2
  have pw := List.pairwise_iff_getElem.mp hm
  by_cases c : i ≤ j
  · by_cases c2 : i = j
    · subst c2
      rw [← e, e1]
      exact Int.le_refl _
    · rw [← e, ← e1]
      exact pw i j hi' k1 (by omega)
  · exfalso
    by_cases c2 : i = j + 1
    · subst c2
      rw [← e, e2] at hmn
      omega
    · have := pw (j + 1) i k2 hi' (by omega)
      rw [e, e2] at this
      omega
theorem cut_init {xs : List V} (h : 1 ≤ xs.length) : cutV xs none (some (-1)) = xs.take (xs.length - 1) ∧ ¬ (HT.sIx xs.length 0 none = 0 ∧ HT.sIx xs.length xs.length (some (-1)) = xs.length) := by
  have e : HT.sIx xs.length xs.length (some (-1)) = xs.length - 1 := by
    show (if (-1 : Int) < 0 then (-1 + (xs.length : Int)).toNat else min (-1 : Int).toNat xs.length) = _
    rw [if_pos (by decide)]
    omega
  refine ⟨?_, fun z => ?_⟩
  · unfold cutV
    rw [e, HT.sIx_none, List.drop_zero, Nat.sub_zero]
  · rw [e] at z
    omega
theorem cut_tl {xs : List V} (h : 1 ≤ xs.length) : cutV xs (some 1) none = xs.drop 1 ∧ ¬ (HT.sIx xs.length 0 (some 1) = 0 ∧ HT.sIx xs.length xs.length none = xs.length) := by
  have e : HT.sIx xs.length 0 (some 1) = 1 := by
    rw [show HT.sIx xs.length 0 (some 1) = min 1 xs.length from HT.sIx_nat _ _ 1]
    omega
  refine ⟨?_, fun z => ?_⟩
  · unfold cutV
    rw [e, HT.sIx_none]
    exact List.take_of_length_le (by rw [List.length_drop]; exact Nat.le_refl _)
  · rw [e] at z
    omega
theorem lets_all {lo hi : Int} : ∀ {es : List En}, (∀ e, e ∈ es → 0 ≤ e.1 ∧ e.1 ≤ 10000) → ∀ x, x ∈ letsOf lo hi es → (∃ z, x.1 = .inr z) ∧ ∃ m : Int, x.2 = .int m ∧ 0 ≤ m ∧ m ≤ 10000
  | [], _, x, hx => (nomatch hx)
  | e :: es, h, x, hx => by
    have ih := lets_all (lo := lo) (hi := hi) fun y hy => h y (List.mem_cons_of_mem _ hy)
    rw [letsOf] at hx
    split at hx
    · split at hx
      · rcases List.mem_cons.mp hx with rfl | hx
        · exact ⟨⟨_, rfl⟩, e.1, rfl, h e List.mem_cons_self⟩
        · exact ih x hx
      · exact ih x hx
    · exact ih x hx
theorem fshow {d : PyData} {k m : Nat} (f : Fine k m d) (hk : k ≤ 60) (hm : m ≤ 16000000) : d.showable = true ∧ d.depth ≤ 60 ∧ d.shown.length ≤ sizeLine := by
  refine ⟨f.shw, Nat.le_trans f.dep hk, ?_⟩
  have z3 : d.shown.length + 2 ≤ m := f.len
  have z24 : sizeLine = 16777216 := by decide
  omega
theorem nm_plus {z : Str} (h : Nm z) : z ≠ "+" := fun e => by
  have := (h.2.2.1 43 (by rw [e]; decide)).1
  omega
theorem chain_at {ts cs : List Str} {ds : List PyData} (h : Chain ts cs ds) : ∀ {pre : List PyData} {x : PyData} {post : List PyData}, ds = pre ++ x :: post → StX ts cs (letsD pre) x := by
  induction h with
  | nil =>
    intro pre x post e
    have := congrArg List.length e
    rw [List.length_append, List.length_cons] at this
    simp at this
  | snoc ds y _ hy ih =>
    intro pre x post e
    by_cases hpo : post = []
    · subst hpo
      obtain ⟨h1, h2⟩ := List.append_inj' e rfl
      cases h2
      rw [← h1]
      exact hy
    · have hp := List.dropLast_concat_getLast hpo
      rw [← hp, ← List.cons_append, ← List.append_assoc] at e
      obtain ⟨h1, _⟩ := List.append_inj' e rfl
      exact ih h1
theorem between_cut {lo hi : Int} {es : List En} {i : Nat} {e : En} (he : es[i]? = some e) (h1 : lo ≤ e.1) (h2 : e.1 < hi) : between lo hi es = between lo hi (es.take i) ++ e.2.2 :: between lo hi (es.drop (i + 1)) := by
  have e1 : es = es.take i ++ es.drop i := (List.take_append_drop i es).symm
  have e2 := drop_at he
  rw [show between lo hi es = between lo hi (es.take i ++ es.drop i) by rw [List.take_append_drop], between_append, e2]
  congr 1
  show between lo hi ([e] ++ es.drop (i + 1)) = _
  rw [between_append, between_all fun x hx => by rw [List.mem_singleton.mp hx]; exact ⟨h1, h2⟩]
  rfl
theorem parts_at : ∀ {ms : List Int} {es : List En} {i : Nat} {lo hi : Int}, ms[i]? = some lo → ms[i + 1]? = some hi → (partsOf ms es)[i]? = some (between lo hi es)
  | m :: m' :: ms, es, 0, lo, hi, h1, h2 => by
    cases h1
    cases h2
    rfl
  | m :: m' :: ms, es, i + 1, lo, hi, h1, h2 => by
    rw [partsOf, List.getElem?_cons_succ]
    exact parts_at (ms := m' :: ms) (by simpa using h1) (by simpa using h2)
  | [], _, _, _, _, h1, _ => by simp at h1
  | [m], _, 0, _, _, _, h2 => by simp at h2
  | [m], _, i + 1, _, _, h1, _ => by simp at h1
theorem lets_mem {lo hi : Int} : ∀ {es : List En} {z : Str}, z ∈ letsD (between lo hi es) → ∃ q : Int, ((.inr z, .int q) : Key × V) ∈ letsOf lo hi es
  | [], z, h => (nomatch h)
  | e :: es, z, h => by
    rw [show between lo hi (e :: es) = between lo hi [e] ++ between lo hi es from between_append lo hi [e] es, letsD_append] at h
    rw [letsOf]
    have ih := fun h => lets_mem (lo := lo) (hi := hi) (es := es) (z := z) h
    by_cases c : lo ≤ e.1 ∧ e.1 < hi
    · rw [if_pos c]
      have e1 : between lo hi [e] = [e.2.2] := between_all fun x hx => by rw [List.mem_singleton.mp hx]; exact c
      rw [e1] at h
      rcases List.mem_append.mp h with h | h
      · have h : z ∈ [e.2.2].filterMap letNm := h
        rw [List.filterMap_cons] at h
        cases hn : letNm e.2.2 with
        | none =>
          rw [hn] at h
          exact (nomatch h)
        | some z' =>
          rw [hn] at h
          have : z = z' := List.mem_singleton.mp h
          subst this
          exact ⟨e.1, List.mem_cons_self⟩
      · obtain ⟨q, hq⟩ := ih h
        split
        · exact ⟨q, List.mem_cons_of_mem _ hq⟩
        · exact ⟨q, hq⟩
    · rw [if_neg c]
      have e1 : between lo hi [e] = [] := between_none fun x hx => by rw [List.mem_singleton.mp hx]; omega
      rw [e1] at h
      exact ih h
theorem merge_has {k : Key} : ∀ (more acc : List (Key × V)), ((∃ v, valV acc k = some v) ∨ ∃ v, (k, v) ∈ more) → ∃ v, valV (mergeK acc more) k = some v
  | [], acc, h => h.elim id fun ⟨_, h⟩ => (nomatch h)
  | p :: more, acc, h => by
    have ih := merge_has (k := k) more (putK acc p.1 p.2)
    have e : mergeK acc (p :: more) = mergeK (putK acc p.1 p.2) more := by
      unfold mergeK
      rw [List.foldl_cons]
    rw [e]
    refine ih ?_
    rw [valV_put]
    by_cases c : k = p.1
    · rw [if_pos c]
      exact .inl ⟨_, rfl⟩
    · rw [if_neg c]
      rcases h with h | ⟨v, h⟩
      · exact .inl h
      · rcases List.mem_cons.mp h with h | h
        · exact absurd (by rw [← h]) c
        · exact .inr ⟨v, h⟩
/-- the lets ahead of an entry, told by the dict -/
theorem lets_known {lo hi : Int} {es : List En} (hb : ∀ e, e ∈ es → 0 ≤ e.1 ∧ e.1 ≤ 10000) {z : Str} (h : z ∈ letsD (between lo hi es)) : ∃ q : Int, lzK (mergeK [] (letsOf lo hi es)) z = some q ∧ 0 ≤ q ∧ q ≤ 10000 ∧ valV (mergeK [] (letsOf lo hi es)) (.inr z) = some (.int q) := by
  obtain ⟨q0, hq0⟩ := lets_mem h
  obtain ⟨v, hv⟩ := merge_has (letsOf lo hi es) [] (.inr ⟨_, hq0⟩)
  obtain ⟨m, rfl, m0, m1⟩ := merge_val (PV := fun v => ∃ m : Int, v = .int m ∧ 0 ≤ m ∧ m ≤ 10000) (letsOf lo hi es) [] (fun k v z => nomatch z) (fun x hx => (lets_all hb x hx).2) _ _ hv
  exact ⟨m, by unfold lzK; rw [hv], m0, m1, hv⟩
/-- how long an expression is -/
def gE : Nat → Nat
  | 0 => 0
  | n + 1 => 3 * gE n + 300
theorem gE_le {n : Nat} (h : n < 8) : gE n ≤ 400000 := (show ∀ n, n < 8 → gE n ≤ 400000 by decide) n h
theorem Cx.fine {zs sc : List Str} (hz : ∀ z, z ∈ zs → z ≠ "#" → Fine 0 84 (.str z)) (hs : ∀ z, z ∈ sc → Fine 0 84 (.str z)) {b : Bool} {n : Nat} {x : PyData} (h : Cx zs sc b n x) : Fine (n + 1) (gE n) x := by
  induction h with
  | int b n i h1 h2 => exact (tup2 (by decide) (Fine.int h1 h2)).mono (by omega) (by simp only [gE]; omega)
  | let_ b n i g h1 h2 => exact (tup2 (by decide) (Fine.int (by omega) (by omega))).mono (by omega) (by simp only [gE]; omega)
  | key n => exact fine_key.mono (by omega) (by simp only [gE]; omega)
  | var b n z h1 => exact (tup2 (by decide) (hs z h1)).mono (by omega) (by simp only [gE]; omega)
  | cell b n t v x h1 h2 _ ih => exact ((Fines.cons (Fine.word (w := "cell") (by decide)).k0 (.cons (hz t h1.1 h1.2).k0 (.cons ih (.cons (hz v h2.1 h2.2).k0 .nil)))).tup).mono (Nat.le_refl _) (by simp only [gE]; omega)
  | op b n o x y h1 _ _ ih1 ih2 => exact ((Fines.cons (Fine.word (w := o) ((show ∀ o, o ∈ ops5 → o ∈ (["int", "key", "var", "cell", "if", "+", "-", "*", "<", "=", "at", "count", "sum", "most", "first", "in", "let", "need", "tell", "put", "each"] : List Str) by decide) o h1)).k0 (.cons ih1 (.cons ih2 .nil))).tup).mono (Nat.le_refl _) (by simp only [gE]; omega)
  | at_ b n x y _ _ ih1 ih2 => exact ((Fines.cons (Fine.word (w := "at") (by decide)).k0 (.cons ih1 (.cons ih2 .nil))).tup).mono (Nat.le_refl _) (by simp only [gE]; omega)
  | iff b n x y z _ _ _ ih1 ih2 ih3 => exact ((Fines.cons (Fine.word (w := "if") (by decide)).k0 (.cons ih1 (.cons ih2 (.cons ih3 .nil)))).tup).mono (Nat.le_refl _) (by simp only [gE]; omega)
  | agg b n o t p xs vs ds hh h0 h1 h2 h3 _ _ _ _ _ ih2 ih3 ih4 =>
    obtain rfl : xs = [] := List.eq_nil_of_length_eq_zero (Nat.le_zero.mp h3)
    have fX : Fine 2 121 (rowX t) := ((Fines.cons (Fine.word (w := "cell") (by decide)).k0 (.cons (hz t h2.1 h2.2).k0 (.cons fine_key (.cons (Fine.word (w := "in") (by decide)).k0 .nil)))).tup).mono (Nat.le_refl _) (by decide)
    have fE : Fine 1 5 (.tuple []) := (Fines.nil (k := 0)).tup
    have fo : Fine 0 9 (.str o) := Fine.word ((show ∀ p, p ∈ aggk → p.1 ∈ (["int", "key", "var", "cell", "if", "+", "-", "*", "<", "=", "at", "count", "sum", "most", "first", "in", "let", "need", "tell", "put", "each"] : List Str) by decide) _ h1)
    have fall : ∃ L, L ≤ 2 * gE n ∧ Fines (n + 1) L (vs ++ ds) := by
      have two : ∀ (l : List PyData), (∀ y, y ∈ l → Fine (n + 1) (gE n) y) → l.length ≤ 2 → ∃ L, L ≤ 2 * gE n ∧ Fines (n + 1) L l := fun l hl h2 => by
        match l, hl, h2 with
        | [], _, _ => exact ⟨0, Nat.zero_le _, .nil⟩
        | [a], hl, _ => exact ⟨gE n + 0, by omega, .cons (hl a List.mem_cons_self) .nil⟩
        | [a, b], hl, _ => exact ⟨gE n + (gE n + 0), by omega, .cons (hl a List.mem_cons_self) (.cons (hl b (List.mem_cons_of_mem _ List.mem_cons_self)) .nil)⟩
        | _ :: _ :: _ :: _, _, h => simp at h
      refine two _ (fun y hy => ?_) ?_
      · rcases List.mem_append.mp hy with hy | hy
        · exact ih3 y hy
        · exact ih4 y hy
      · rw [List.length_append]
        exact (aggk_aggs h1).2
    obtain ⟨L, hL, fL⟩ := fall
    have FS : Fines (n + 1) (9 + (84 + (5 + (121 + (gE n + L))))) (.str o :: .str t :: .tuple [] :: rowX t :: p :: (vs ++ ds)) := .cons fo.k0 (.cons (hz t h2.1 h2.2).k0 (.cons (fE.mono (by omega) (Nat.le_refl _)) (.cons (fX.mono (by omega) (Nat.le_refl _)) (.cons ih2 fL))))
    exact FS.tup.mono (Nat.le_refl _) (by simp only [gE]; omega)
theorem Cx.tup {zs sc : List Str} {b : Bool} {n : Nat} {x : PyData} (h : Cx zs sc b n x) : ∃ xs, x = .tuple xs := by
  cases h <;> exact ⟨_, rfl⟩
/-- the tables stay when a dict changes -/
theorem TabsN.dk {T : List NTab} {H : Hp} {d : Addr} {kvs : List (Key × V)} {o : HO} (hT : TabsN T H) (hd : H d = some (.dK kvs)) : TabsN T (upd H d o) := fun p hp => by
  obtain ⟨ps, h1, h2, h3⟩ := hT p hp
  refine ⟨ps, ?_, h2, fun pos cv hc => ?_⟩
  · rw [upd_ne (fun z => by rw [z, hd] at h1; cases h1)]
    exact h1
  · obtain ⟨c, e1, e2⟩ := h3 pos cv hc
    refine ⟨c, e1, ?_⟩
    rw [upd_ne (fun z => by rw [z, hd] at e2; unfold CodeO at e2; cases e2)]
    exact e2
end L19

namespace L19
open PySem PySem.Spec PyProof.Rows L2 GR WX TX RZ NdefX LamX
abbrev s_law_right : Stmt := topS 36
abbrev N_ri : List Str := ["_law_made", "_law_keys", "_law_before", "_law_low", "_law_high", "_law_lets", "_law_position", "_law_statement_here", "_law_words", "_law_due_here", "_law_found"]
theorem sc_law_right : FnScope N_ri ["_law_made", "_law_keys"] (defScope s_law_right) := ⟨rfl, rfl, rfl, by decide +kernel, rfl, by decide +kernel, by decide +kernel⟩
theorem dues_at {K : PySem.W.Frag} {H : Hp} {lz : Str → Option Int} : ∀ {us : List V} {ss : List Slo}, Dues K H lz us ss → ∀ {i : Nat} {v : V}, us[i]? = some v → ∃ s, ss[i]? = some s ∧ DueOk K H lz v s
  | _, _, .nil, i, v, h' => by simp at h'
  | _, _, .cons (b := e) h t, 0, v, h' => by cases h'; exact ⟨e, rfl, h⟩
  | _, _, .cons h t, i + 1, v, h' => by
    obtain ⟨e, h1, h2⟩ := dues_at t (by simpa using h')
    exact ⟨e, by simpa using h1, h2⟩
structure Nms (ts cs : List Str) : Prop where
  t : ∀ z, z ∈ ts → Nm z
  c : ∀ z, z ∈ cs → Nm z
  lt : ts.length = 2
  lc : cs.length = 3
theorem Nms.hash {ts cs : List Str} (h : Nms ts cs) : ("#" : Str) ∉ ts := fun e => nm_hash (h.t _ e) rfl
theorem Nms.plus {ts cs : List Str} (h : Nms ts cs) : ("+" : Str) ∉ nmx 0 ts cs := fun e => by
  simp only [nmx, mark, List.mem_cons, List.mem_append] at e
  rcases e with e | e | e | e
  · exact absurd e (by decide)
  · exact nm_plus (h.t _ e) rfl
  · exact nm_plus (h.c _ e) rfl
  · exact absurd e (by decide)
theorem Nms.all {ts cs : List Str} (h : Nms ts cs) : ∀ z, z ∈ ("+" : Str) :: nmx 0 ts cs → (z = "+" ∨ z = "#" ∨ Nm z) := fun z e => by
  rcases List.mem_cons.mp e with rfl | e
  · exact .inl rfl
  simp only [nmx, mark, List.mem_cons, List.mem_append] at e
  rcases e with rfl | e | e | e
  · exact .inr (.inr in_nm)
  · exact .inr (.inr (h.t _ e))
  · exact .inr (.inr (h.c _ e))
  · rw [if_pos (by decide)] at e
    exact .inr (.inl (List.mem_singleton.mp e))
def sp_right (K : PySem.W.Frag) (T : List NTab) : Sp := fun vs H Q _ => ∃ (p kl : Addr) (ts cs : List Str) (ks ms : List Int) (es : List En), vs = [.ref p, .ref kl] ∧ LgF K H p ms es ∧ OkL ms es ∧ (∀ ds, ds ∈ partsOf ms es → Chain ts cs ds) ∧ Nms ts cs ∧ H kl = some (.lst (ks.map V.int)) ∧ ks.length ≤ 10 ∧ (∀ k, k ∈ ks → -(10 ^ 18) ≤ k ∧ k ≤ 10 ^ 18) ∧ TabsN T H ∧
  ∀ H', ExtN H H' → TabsN T H' → Q (.bl true) H'
section
variable {P : Program} {w : World} {K : PySem.W.Frag} {mg : Str → Option Value} {base : Heap}
theorem ok_right {T : List NTab} {f fu fe fi : Addr} {fd fdu fde fdi : FuncData} {k : Nat} (F : Fun K "_law_right" "_law_right" s_law_right f fd)
    (Gu : FnOk P w K mg base CX0 k fu fdu ps_due (sp_due K)) (gu : mg "_law_due" = some (.ref fu)) (Ku : PySem.W.keepIn K (.ref fu) = true) (bu : Binds K fdu ps_due [])
    (Ge : FnOk P w K mg base CX0 k fe fde ["log", "slot"] (sp_eo K T)) (ge : mg "expression_of" = some (.ref fe)) (Ke : PySem.W.keepIn K (.ref fe) = true) (be : Binds K fde ["log", "slot"] [])
    (Gi : FnOk P w K mg base CX0 k fi fdi ["expression"] (sp_test K closedE)) (gi : mg "is_closed" = some (.ref fi)) (Ki : PySem.W.keepIn K (.ref fi) = true) (bi : Binds K fdi ["expression"] [])
    (mzip : mg "zip" = none) (mrepr : mg "repr" = none) : FnG P w K mg base CX0 (k + 1) f fd ["_law_made", "_law_keys"] (sp_right K T) := by
  have nd := sc_law_right.nd
  refine ok_g F sc_law_right (fun vs H Q E h => ?_) (fun cdv A outer s H vs Q E hg hr h => ?_)
  · obtain ⟨p, kl, ts, cs, ks, ms, es, rfl, _⟩ := h
    rfl
  obtain ⟨p, kl, ts, cs, ks, ms, es, rfl, L, ok, hch, hN, hkl, hkn, hkb, hT, q⟩ := h
  refine ⟨_, (pss_cons (ps_set (i := 2) nd rfl (.inl rfl) (pe_callB (call_reprD hg hr) (by rfl) mrepr boot_repr (pa_cons (pv 0) pa_nil)))
      (pss_cons (ps_for PassesOwn.never rfl (pi_zipA (by rfl) mzip (pa_cons (pe_slice L2.sl_tup (pe_ix ix_tup (pv 0) pe_int (fun _ _ => rfl)) po_none (po_some (pe_un un_neg pe_int))) (pa_cons (pe_slice L2.sl_tup (pe_ix ix_tup (pv 0) pe_int (fun _ _ => rfl)) (po_some pe_int) po_none) pa_nil))) (pg_tup rfl (pgs_cons (pg_name (i := 3) nd rfl (Or.inl rfl)) (pgs_cons (pg_name (i := 4) nd rfl (Or.inl rfl)) pgs_nil)))
      (pss_cons (ps_set (i := 5) nd rfl (.inl rfl) pe_dnewK)
        (pss_one (ps_for PassesOwn.never rfl (pi_tup (pe_ix ix_tup (pv 0) pe_int (fun _ _ => rfl))) (pg_tup rfl (pgs_cons (pg_name (i := 6) nd rfl (Or.inl rfl)) (pgs_cons (pg_name (i := 7) nd rfl (Or.inl rfl)) pgs_nil)))
        (pss_one (ps_if (pt_chain op_le op_lt (pv 3) (pv 6) (pv 4))
          (pss_cons (ps_for PassesOwn.never rfl (pi_list (pe_call Gu hr (by rfl) gu Ku bu .nil pass0 (pa_cons (pv 7) (pa_cons (pv 5) (pa_cons (pv 1) pa_nil))))) (pg_tup rfl (pgs_cons (pg_name (i := 8) nd rfl (Or.inl rfl)) (pgs_cons (pg_name (i := 9) nd rfl (Or.inl rfl)) pgs_nil)))
            (pss_cons (ps_set (i := 10) nd rfl (.inl rfl) (pe_call Ge hr (by rfl) ge Ke be .nil pass0 (pa_cons (pv 0) (pa_cons (pe_op op_catT (pe_tup (pa_cons (pv 6) pa_nil)) (pv 8)) pa_nil))))
              (pss_cons (ps_if (PW.pt (pw_or (pt_cmpR op_ne (pe_callB (call_reprD hg hr) (by rfl) mrepr boot_repr (pa_cons (pv 10) pa_nil)) (pe_callB (call_reprD hg hr) (by rfl) mrepr boot_repr (pa_cons (pv 9) pa_nil)) (nomark _)) (pw_or1 (pt_cmpR op_isnot_bl (pe_call Gi hr (by rfl) gi Ki bi .nil pass0 (pa_cons (pv 10) pa_nil)) pe_bl (nomark _)))))
              (pss_one (ps_ret pe_bl))
              pss_nil)
              (pss_one (ps_if (pt_cmpR op_ne (pe_callB (call_reprD hg hr) (by rfl) mrepr boot_repr (pa_cons (pe_call Ge hr (by rfl) ge Ke be .nil pass0 (pa_cons (pv 0) (pa_cons (pe_op op_catT (pe_tup (pa_cons (pv 6) pa_nil)) (pv 8)) pa_nil))) pa_nil)) (pe_callB (call_reprD hg hr) (by rfl) mrepr boot_repr (pa_cons (pv 9) pa_nil)) (nomark _))
              (pss_one (ps_ret pe_bl))
              pss_nil)))))
            (pss_one (ps_if (pt_cmpR op_eq (pe_ix ix_tup (pv 7) pe_int (fun _ _ => rfl)) pe_str (nomark _))
            (pss_one (ps_asg (pv 6) (pg_sub (pv 5) (pe_ix ix_tup (pv 7) pe_int (fun _ _ => rfl)) (set_dict (hu_of hr)))))
            pss_nil)))
          pss_nil))))))
      (pss_one (ps_ret (pe_cmpR op_eq (pe_callB (call_reprD hg hr) (by rfl) mrepr boot_repr (pa_cons (pv 0) pa_nil)) (pv 2) (nomark _)))))), ?_⟩
  have hzF : ∀ z, z ∈ ("+" : Str) :: nmx 0 ts cs → z ≠ "#" → Fine 0 84 (.str z) := fun z hz hne => by
    rcases hN.all z hz with rfl | rfl | h
    · exact (Fine.word (w := "+") (by decide)).mono (Nat.le_refl _) (by decide)
    · exact absurd rfl hne
    · exact Fine.str h
  have hzo : ∀ z, z ∈ (("+" : Str) :: nmx 0 ts cs) ++ [] → PyData.strOk z = true := fun z hz => by
    rw [List.append_nil] at hz
    rcases hN.all z hz with rfl | rfl | h
    · exact so_iff.mpr (by decide)
    · exact so_iff.mpr (by decide)
    · exact nm_ok h
  have hzl : ((("+" : Str) :: nmx 0 ts cs) ++ []).length ≤ 60 := by
    rw [List.append_nil]
    simp only [nmx, List.length_cons, List.length_append, hN.lt, hN.lc, mark]
    rw [if_pos (by decide)]
    decide
  obtain ⟨mp, ep, rs, h1, h2, h3, h4⟩ := id L
  have hl := ens_len h4
  obtain ⟨f1, f2, f3⟩ := fshow (L.lg.fine ok) (by decide) (by decide)
  refine ⟨.ref p, rfl, p, logD ms es, rfl, L.lg.dp, f1, f2, f3, ?_⟩
  have hms : 1 ≤ (ms.map V.int).length := by
    rw [List.length_map]
    exact List.length_pos_of_mem ok.m0
  obtain ⟨c1, c1'⟩ := cut_init hms
  obtain ⟨c2, c2'⟩ := cut_tl hms
  refine ⟨.ref p, rfl, p, _, 0, .ref mp, rfl, rfl, .inl (.inl h1), rfl, 1, rfl, -1, rfl, mp, _, rfl, .inl (.inl h2), c1', fun z1 nz1 => ?_⟩
  rw [c1]
  have s1 := same_upd (o := .tup ((ms.map V.int).take ((ms.map V.int).length - 1))) nz1
  refine ⟨.ref p, rfl, p, _, 0, .ref mp, rfl, rfl, .inl (.inl (s1 _ _ h1)), rfl, _, rfl, mp, _, rfl, .inl (.inl (s1 _ _ h2)), c2', fun z2 nz2 => ?_⟩
  rw [c2]
  have s2 := same_upd (o := .tup ((ms.map V.int).drop 1)) nz2
  have hz1 := s2 _ _ (show upd H z1 (.tup ((ms.map V.int).take ((ms.map V.int).length - 1))) z1 = _ from upd_same)
  have hz2 : upd (upd H z1 (.tup ((ms.map V.int).take ((ms.map V.int).length - 1)))) z2 (.tup ((ms.map V.int).drop 1)) z2 = some (.tup ((ms.map V.int).drop 1)) := upd_same
  have s12 := s1.trans s2
  revert hz1 hz2 s12
  generalize upd (upd H z1 (.tup ((ms.map V.int).take ((ms.map V.int).length - 1)))) z2 (.tup ((ms.map V.int).drop 1)) = H1
  intro hz1 hz2 s12
  have L1 := L.keep (KeepT.of s12)
  have h41 := ens_keep (KeepT.of s12) h4
  have hT1 : TabsN T H1 := fun a ha => (hT a ha).ext s12
  have hkl1 := s12 _ _ hkl
  refine ⟨z1, z2, (ms.map V.int).take ((ms.map V.int).length - 1), (ms.map V.int).drop 1, rfl, .inr ⟨.inl (.inl hz1), .inl (.inl hz2), ?_⟩⟩
  refine for_zipT (xs := (ms.map V.int).take ((ms.map V.int).length - 1)) (ys := (ms.map V.int).drop 1) (by rw [List.length_take, List.length_drop]; omega) (fun i σ H' => ∃ y3 y4 y5 y6 y7 y8 y9 y10, σ = [some (.ref p), some (.ref kl), some (.str (logD ms es).shown), y3, y4, y5, y6, y7, y8, y9, y10] ∧ ExtN H1 H' ∧ TabsN T H') ?_ ?_ ?_ ?_
  · exact ⟨none, none, none, none, none, none, none, none, rfl, ExtN.refl _, hT1⟩
  · rintro i σ H' ⟨_, _, _, _, _, _, _, _, rfl, sm, _⟩
    exact ⟨(KeepT.ext sm).seqt (.inl (.inl hz1)), (KeepT.ext sm).seqt (.inl (.inl hz2))⟩
  · rintro i x y TT σ H' hx hy ⟨y3, y4, y5, y6, y7, y8, y9, y10, rfl, sm, hT2⟩ nT
    obtain ⟨lo, hlo, rfl⟩ : ∃ lo, ms[i]? = some lo ∧ x = .int lo := by
      rw [List.getElem?_take] at hx
      split at hx
      · rw [List.getElem?_map] at hx
        obtain ⟨a, ha, rfl⟩ := Option.map_eq_some_iff.mp hx
        exact ⟨a, ha, rfl⟩
      · cases hx
    obtain ⟨hi, hhi, rfl⟩ : ∃ hi, ms[i + 1]? = some hi ∧ y = .int hi := by
      rw [List.getElem?_drop, List.getElem?_map, Nat.add_comm] at hy
      obtain ⟨a, ha, rfl⟩ := Option.map_eq_some_iff.mp hy
      exact ⟨a, ha, rfl⟩
    have sT := same_upd (o := .tup [.int lo, .int hi]) nT
    refine ⟨TT, _, rfl, .inl (.inl upd_same), rfl, _, _, rfl, _, _, rfl, rfl, fun kd nkd => ?_⟩
    have sK := same_upd (o := .dK []) nkd
    have hk0 : upd (upd H' TT (.tup [.int lo, .int hi])) kd (.dK []) kd = some (.dK []) := upd_same
    have sTK := sT.trans sK
    have sm2 := sm.trans (ExtN.of sTK)
    have nk1 : H1 kd = none ∨ True := .inr trivial
    have hT3 : TabsN T (upd (upd H' TT (.tup [.int lo, .int hi])) kd (.dK [])) := fun a ha => (hT2 a ha).ext sTK
    have nkH1 : ∀ b o, H1 b = some o → (∀ ps, o ≠ .tbl ps) → b ≠ kd := fun b o e ne z => by
      have e1 := sT _ _ (sm b o e ne)
      rw [z, nkd] at e1
      cases e1
    revert hk0 sm2 hT3
    generalize upd (upd H' TT (.tup [.int lo, .int hi])) kd (.dK []) = H2
    intro hk0 sm2 hT3
    have hep : ∀ {H' : Hp}, KeepT H1 H' → SqT K H' ep (rs.map V.ref) := fun k => .inl (rd_keep (rd_keep (let ⟨o, e, _⟩ := h3; .inr ⟨o, e⟩) (KeepT.of s12)) k)
    refine ⟨.ref p, rfl, p, _, 1, .ref ep, rfl, rfl, (KeepT.ext sm2).seqt (.inl (.inl (s12 _ _ h1))), rfl, ep, rfl, ⟨_, hep (KeepT.ext sm2)⟩, ?_⟩
    refine for_tup (xs := rs.map V.ref) (fun j σ H' => ∃ y6 y7 y8 y9 y10, σ = [some (.ref p), some (.ref kl), some (.str (logD ms es).shown), some (.int lo), some (.int hi), some (.ref kd), y6, y7, y8, y9, y10] ∧ H' kd = some (.dK (mergeK [] (letsOf lo hi (es.take j)))) ∧ ExtN H1 H' ∧ TabsN T H') ?_ ?_ ?_ ?_
    · exact ⟨_, _, _, _, _, rfl, hk0, sm2, hT3⟩
    · rintro j σ H' _ ⟨_, _, _, _, _, rfl, _, kp, _⟩
      exact hep (KeepT.ext kp)
    · rintro j x σ H3 hx ⟨y6, y7, y8, y9, y10, rfl, hkd, kp, hT4⟩
      rw [List.getElem?_map] at hx
      obtain ⟨r, hr', rfl⟩ := Option.map_eq_some_iff.mp hx
      obtain ⟨e, he, h5⟩ := ens_at h41 hr'
      have kt := KeepT.ext kp
      have h6 := h5.keep kt
      have hemem := List.mem_of_getElem? he
      have heb := ok.eb e hemem
      have hls := lets_append lo hi (es.take j) [e]
      rw [← take_next he, lets_one] at hls
      have hlen : (mergeK [] (letsOf lo hi (es.take j))).length ≤ 30 := Nat.le_trans (merge_len _) (Nat.le_trans (lets_len _ _ _) (by have := ok.el; rw [List.length_take]; omega))
      refine ⟨r, _, rfl, .inl (.inl h6.1), rfl, _, _, rfl, _, _, rfl, rfl, ?_⟩
      refine ⟨.int lo, rfl, .int e.1, rfl, lo, e.1, rfl, rfl, _, rfl, ?_⟩
      by_cases a1 : lo ≤ e.1
      · rw [decide_eq_true a1]
        refine iteT ⟨.int hi, rfl, e.1, hi, rfl, rfl, _, rfl, ?_⟩
        by_cases a2 : e.1 < hi
        · rw [decide_eq_true a2]
          rw [if_pos ⟨a1, a2⟩] at hls
          refine iteT ?_
          have low := low_at ok.mono hlo hhi a1 a2
          have hcut : letsOf lo e.1 es = letsOf lo hi (es.take j) := lets_cut ok.asc he a2
          have hst := chain_at (hch _ (List.mem_of_getElem? (parts_at (es := es) hlo hhi))) (between_cut he a1 a2)
          have hknown : ∀ z, z ∈ letsD (between lo hi (es.take j)) → ∃ q : Int, lzK (mergeK [] (letsOf lo hi (es.take j))) z = some q ∧ 0 ≤ q ∧ q ≤ 10000 ∧ valV (mergeK [] (letsOf lo hi (es.take j))) (.inr z) = some (.int q) := fun z hz => lets_known (fun y hy => ok.eb y (List.mem_of_mem_take hy)) hz
          have hlz : lzOf lo e.1 es = lzK (mergeK [] (letsOf lo hi (es.take j))) := by
            unfold lzOf
            rw [hcut]
          have hlets : ∀ z, z ∈ letsD (between lo hi (es.take j)) → ∃ q : Int, lzOf lo e.1 es z = some q ∧ 0 ≤ q ∧ q ≤ 10000 := fun z hz => by
            obtain ⟨q, b1, b2, b3, _⟩ := hknown z hz
            exact ⟨q, by rw [hlz]; exact b1, b2, b3⟩
          generalize letsD (between lo hi (es.take j)) = sc at hst hknown hlets
          have C : PfC H3 kd none (nmx 0 ts cs) sc (lzK (mergeK [] (letsOf lo hi (es.take j)))) := ⟨fun k e => (nomatch e), List.mem_cons_self, hN.plus, _, hkd, hknown⟩
          rw [← hlz] at C
          have svd := sv_dp h6.2
          have L3 := L1.keep kt
          refine ⟨e.2.1, rfl, .ref kd, rfl, .ref kl, rfl, e.2.1, kd, kl, e.2.2, ts, cs, sc, ks, lzOf lo e.1 es, rfl, svd.1, hst, hN.hash, C, kp _ _ hkl1 (fun _ z => by cases z), hkn, hkb, fun H4 up us s4 nup hup hD => ?_⟩
          have hlD := dues_len hD
          have hkd4 := s4 _ _ hkd
          have hT5 : TabsN T H4 := fun a ha => (hT4 a ha).ext s4
          have L4 := L3.keep (KeepT.of s4)
          refine ⟨up, rfl, ⟨_, .inl (.inl hup)⟩, ?_⟩
          refine for_list (xs := us) (fun l σ H' => ∃ y8 y9 y10, σ = [some (.ref p), some (.ref kl), some (.str (logD ms es).shown), some (.int lo), some (.int hi), some (.ref kd), some (.int e.1), some e.2.1, y8, y9, y10] ∧ ExtN H4 H' ∧ TabsN T H') ?_ ?_ ?_ ?_
          · exact ⟨_, _, _, rfl, ExtN.refl _, hT5⟩
          · rintro l σ H' _ ⟨_, _, _, rfl, x4, _⟩
            exact .inl (.inl (x4 _ _ hup (fun _ z => by cases z)))
          · rintro l v σ H5 hv ⟨y8, y9, y10, rfl, x5, hT6⟩
            obtain ⟨sl, hsl, hdue⟩ := dues_at hD hv
            have k5 := KeepT.ext x5
            obtain ⟨da, wp, vd, rfl, g1, g2, g3, g4⟩ := hdue.keep k5
            have S := slots_ok hN.hash hkb hst sl (List.mem_of_getElem? hsl)
            obtain ⟨xs, hxs, hslot⟩ := S.form
            obtain ⟨b, hcx, hb0⟩ := S.cx
            have EC : EoC lo ms es e sl.word sl.ko xs sl.y (nmx 0 ts cs) sc b sl.m := ⟨ok.asc, hemem, low, ok.ml, ok.el, hxs, hslot, hcx, List.mem_cons_self, hlets, S.dep⟩
            have Ck : PfC H4 kd sl.ko (nmx 0 ts cs) sc (lzOf lo e.1 es) := ⟨S.key, C.inz, C.nop, (C.same s4).lets⟩
            have hr0 : Cx ("+" :: nmx 0 ts cs) [] false sl.m (pfE (lzOf lo e.1 es) sl.ko sl.m sl.y) := by
              have := Ck.cx hcx
              cases hk : sl.ko with
              | none =>
                rw [hk] at this
                rw [hb0 hk] at this
                exact this
              | some kk =>
                rw [hk] at this
                exact this
            have hrE := hr0.ex (List.mem_cons_of_mem _ List.mem_cons_self)
            have hrc := hr0.closed (List.mem_cons_of_mem _ List.mem_cons_self)
            obtain ⟨q1, q2, q3⟩ := fshow ((hr0.fine hzF (fun z hz => absurd hz (List.not_mem_nil))).mono (show sl.m + 1 ≤ 8 by have := S.dep; omega) (gE_le S.dep)) (by decide) (by decide)
            have hrs := Nat.le_trans (flatP_len hrE) (bnd7 sl.m S.dep)
            obtain ⟨xr, hxr⟩ := hr0.tup
            have isref : ∀ {H' : Hp} {u : V}, Dp K H' u (pfE (lzOf lo e.1 es) sl.ko sl.m sl.y) → ∃ a, u = .ref a := fun {H' u} d => by
              rw [hxr] at d
              cases d
              exact ⟨_, rfl⟩
            obtain ⟨vda, rfl⟩ := isref g3
            have L5 := L4.keep k5
            -- the slot is asked
            refine ⟨da, _, rfl, .inl (.inl g1), rfl, _, _, rfl, _, _, rfl, rfl, ?_⟩
            refine ⟨.ref p, rfl, .int e.1, rfl, h1000 (show 1 ≤ 1000 by decide), fun p1 n1 => ?_⟩
            have t1 := same_upd (o := .tup [.int e.1]) n1
            have hp1 : upd H5 p1 (.tup [.int e.1]) p1 = some (.tup [.int e.1]) := upd_same
            have lk : (V.str sl.word :: keyVs sl.ko).length ≤ 2 := by
              cases sl.ko <;> simp [keyVs]
            refine ⟨.ref wp, rfl, p1, wp, [.int e.1], _, rfl, rfl, .inl (.inl hp1), .inl (.inl (t1 _ _ g2)), List.cons_ne_nil _ _, h1000 (by show 1 + _ ≤ 1000; omega), (fun z => by cases z), fun _ p2 n2 => ?_⟩
            have t2 := t1.trans (same_upd (o := .tup ([.int e.1] ++ (.str sl.word :: keyVs sl.ko))) n2)
            have hp2 : upd (upd H5 p1 (.tup [.int e.1])) p2 (.tup ([.int e.1] ++ (.str sl.word :: keyVs sl.ko))) p2 = some (.tup (.int e.1 :: .str sl.word :: keyVs sl.ko)) := upd_same
            revert t2 hp2
            generalize upd (upd H5 p1 (.tup [.int e.1])) p2 (.tup ([.int e.1] ++ (.str sl.word :: keyVs sl.ko))) = H6
            intro t2 hp2
            refine ⟨p, p2, lo, ms, es, e, sl.word, sl.ko, xs, sl.y, nmx 0 ts cs, sc, b, sl.m, rfl, (L5.keep (KeepT.of t2)).lg, EC, .inl (.inl hp2), fun a ha => (hT6 a ha).ext t2, fun H7 v7 x7 hT7 hr7 => ?_⟩
            obtain ⟨v7a, rfl⟩ := isref hr7
            have x57 : ExtN H5 H7 := (ExtN.of t2).trans x7
            have g37 := dp_keep (KeepT.ext x57) _ _ g4 g3
            -- shown alike, closed
            refine ⟨.ref v7a, rfl, v7a, _, rfl, hr7, q1, q2, q3, ?_⟩
            refine ⟨.ref vda, rfl, vda, _, rfl, g37, q1, q2, q3, ?_⟩
            refine ⟨rfl, _, rfl, ?_⟩
            rw [decide_eq_true rfl]
            refine iteF ?_
            refine ⟨.ref v7a, rfl, .ref v7a, _, (("+" : Str) :: nmx 0 ts cs) ++ [], sl.m, rfl, hr7, hrE, hrs, by have := S.dep; omega, hzl, hzo, fun H8 s8 => ?_⟩
            rw [hrc]
            refine ⟨true, true, rfl, rfl, _, rfl, iteF ?_⟩
            have hT8 : TabsN T H8 := fun a ha => (hT7 a ha).ext s8
            have x58 := x57.trans (ExtN.of s8)
            have L8 := L5.keep (KeepT.ext x58)
            have g18 := (KeepT.ext x58).1 _ _ g2
            -- asked again
            refine ⟨.ref p, rfl, .int e.1, rfl, h1000 (show 1 ≤ 1000 by decide), fun p3 n3 => ?_⟩
            have t3 := same_upd (o := .tup [.int e.1]) n3
            have hp3 : upd H8 p3 (.tup [.int e.1]) p3 = some (.tup [.int e.1]) := upd_same
            refine ⟨.ref wp, rfl, p3, wp, [.int e.1], _, rfl, rfl, .inl (.inl hp3), .inl (.inl (t3 _ _ g18)), List.cons_ne_nil _ _, h1000 (by show 1 + _ ≤ 1000; omega), (fun z => by cases z), fun _ p4 n4 => ?_⟩
            have t4 := t3.trans (same_upd (o := .tup ([.int e.1] ++ (.str sl.word :: keyVs sl.ko))) n4)
            have hp4 : upd (upd H8 p3 (.tup [.int e.1])) p4 (.tup ([.int e.1] ++ (.str sl.word :: keyVs sl.ko))) p4 = some (.tup (.int e.1 :: .str sl.word :: keyVs sl.ko)) := upd_same
            revert t4 hp4
            generalize upd (upd H8 p3 (.tup [.int e.1])) p4 (.tup ([.int e.1] ++ (.str sl.word :: keyVs sl.ko))) = H9
            intro t4 hp4
            refine ⟨p, p4, lo, ms, es, e, sl.word, sl.ko, xs, sl.y, nmx 0 ts cs, sc, b, sl.m, rfl, (L8.keep (KeepT.of t4)).lg, EC, .inl (.inl hp4), fun a ha => (hT8 a ha).ext t4, fun H10 v10 x10 hT10 hr10 => ?_⟩
            obtain ⟨v10a, rfl⟩ := isref hr10
            have x510 : ExtN H5 H10 := (x58.trans (ExtN.of t4)).trans x10
            have g310 := dp_keep (KeepT.ext x510) _ _ g4 g3
            refine ⟨v10a, _, rfl, hr10, q1, q2, q3, ?_⟩
            refine ⟨.ref vda, rfl, vda, _, rfl, g310, q1, q2, q3, ?_⟩
            refine ⟨rfl, _, rfl, ?_⟩
            rw [decide_eq_true rfl]
            exact iteF ⟨_, _, _, rfl, x5.trans x510, hT10⟩
          · rintro σ H5 ⟨y8, y9, y10, rfl, x5, hT6⟩
            have x35 : ExtN H3 H5 := (ExtN.of s4).trans x5
            have x15 := kp.trans x35
            have hkd5 := x35 _ _ hkd (fun _ z => by cases z)
            have hT7 : ∀ o, TabsN T (upd H5 kd o) := fun o => L19.TabsN.dk hT6 hkd5
            have x16 : ∀ o, ExtN H1 (upd H5 kd o) := fun o b ob e ne => by
              rw [upd_ne (nkH1 b ob e ne)]
              exact x15 b ob e ne
            obtain ⟨p', wd, v1, vs', ev, hp', hc⟩ := sv_lets h5.2
            have hp5 := (KeepT.ext x15).1 _ _ hp'
            refine ⟨e.2.1, rfl, p', _, 0, .str wd, ev, rfl, .inl (.inl hp5), atI_nat (j := 0) rfl, rfl, _, rfl, ?_⟩
            rcases hc with ⟨rfl, z, rfl, hz, hlz'⟩ | ⟨hw, hlz'⟩
            · rw [decide_eq_true rfl]
              rw [hlz'] at hls
              refine iteT ⟨.int e.1, rfl, .ref kd, rfl, e.2.1, rfl, p', _, 1, .str z, ev, rfl, .inl (.inl hp5), atI_nat (j := 1) rfl, kd, _, rfl, .inl ⟨_, .inr z, hkd5, rfl, small1000 (by omega), rfl⟩, _, _, _, _, _, rfl, ?_, x16 _, hT7 _⟩
              rw [hls, merge_snoc]
              exact upd_same
            · rw [decide_eq_false (fun z => hw (by injection z))]
              rw [hlz', List.append_nil] at hls
              refine iteF ⟨_, _, _, _, _, rfl, ?_, x15, hT6⟩
              rw [hls]
              exact hkd5
        · rw [decide_eq_false a2]
          rw [if_neg (fun z => a2 z.2), List.append_nil] at hls
          refine iteF ⟨_, _, _, _, _, rfl, ?_, kp, hT4⟩
          rw [hls]
          exact hkd
      · rw [decide_eq_false a1]
        rw [if_neg (fun z => a1 z.1), List.append_nil] at hls
        refine iteF ⟨_, rfl, iteF ⟨_, _, _, _, _, rfl, ?_, kp, hT4⟩⟩
        rw [hls]
        exact hkd
    · rintro σ H' ⟨_, _, _, _, _, rfl, _, kp, hT4⟩
      exact ⟨_, _, _, _, _, _, _, _, rfl, kp, hT4⟩
  · rintro σ H' ⟨_, _, _, _, _, _, _, _, rfl, sm, hT2⟩
    have x0 : ExtN H H' := (ExtN.of s12).trans sm
    have L3 := L.keep (KeepT.ext x0)
    refine ⟨.ref p, rfl, p, logD ms es, rfl, L3.lg.dp, f1, f2, f3, ?_⟩
    refine ⟨_, rfl, rfl, ?_⟩
    rw [decide_eq_true rfl]
    exact q H' x0 hT2
end
end L19

namespace L19
open PySem PySem.Spec PyProof.Rows L2 GR WX TX RZ NdefX LamX
abbrev s_law_bound_keys : Stmt := topS 37
abbrev N_bk : List Str := ["_law_deck_here", "_law_world_here", "_law_table", "_law_column", "_law_one", "_law_other", "_law_some"]
theorem sc_law_bound_keys : FnScope N_bk ["_law_deck_here", "_law_world_here"] (defScope s_law_bound_keys) := ⟨rfl, rfl, rfl, by decide +kernel, rfl, by decide +kernel, by decide +kernel⟩
def sp_bk (K : PySem.W.Frag) : Sp := fun vs H Q _ => ∃ (d c u tl cl nl : Addr) (N : Int) (ts cs ns : List Str), vs = [.ref d, .ref u] ∧ Deck H d c N ∧ N < 2 ^ 52 ∧ Wd H d c u tl cl nl ts cs ns ∧
  ∀ H' p us ds, Keep d c H H' → Deck H' d c (N + 10) → H' p = some (.tup us) → SVs K H' us ds → us.length ≤ 6 → Chain ts cs ds → Q (.ref p) H'
def keyD : PyData := .tuple [.str "key"]
def oneD (t z : Str) (r : Int) : PyData := .tuple [.str "at", .tuple [.str "+", keyD, intD r], .tuple [.str "cell", .str t, keyD, .str z]]
def otherD (t z : Str) (r : Int) : PyData := .tuple [.str "at", oneD t z r, .tuple [.str "at", .tuple [.str "-", keyD, intD 1], .tuple [.str "*", keyD, keyD]]]
def ifD (t z : Str) (r : Int) : PyData := .tuple [.str "if", keyD, oneD t z r, otherD t z r]
def celD (t z : Str) (r : Int) : PyData := .tuple [.str "cell", .str t, otherD t z r, .str "in"]
/-- one that may be picked -/
def GB (K : PySem.W.Frag) (zs : List Str) (H : Hp) (v : V) : Prop := ∃ x, Dp K H v x ∧ Fine 5 900 x ∧ Cx zs [] true 5 x
theorem GB.keep {K : PySem.W.Frag} {zs : List Str} {H H' : Hp} {v : V} (h : GB K zs H v) (k : KeepT H H') : GB K zs H' v := by
  obtain ⟨x, h1, h2, h3⟩ := h
  exact ⟨x, dp_keep k _ _ h2.flat h1, h2, h3⟩
section
variable {t z : Str} {r : Int} (ft : Fine 0 84 (.str t)) (fz : Fine 0 84 (.str z)) (h1 : -(10 ^ 18) ≤ r) (h2 : r ≤ 10 ^ 18)
theorem fine_int (h1 : -(10 ^ 18) ≤ r) (h2 : r ≤ 10 ^ 18) : Fine 1 36 (intD r) := tup2 (by decide) (Fine.int h1 h2)
theorem fine_key' : Fine 1 14 keyD := fine_key
include ft fz h1 h2 in
theorem fine_one : Fine 3 300 (oneD t z r) := by
  have f1 : Fine 2 80 (.tuple [.str "+", keyD, intD r]) := ((Fines.cons (Fine.word (w := "+") (by decide)).k0 (.cons fine_key' (.cons (fine_int h1 h2) .nil))).tup).mono (by decide) (by decide)
  have f2 : Fine 2 200 (.tuple [.str "cell", .str t, keyD, .str z]) := ((Fines.cons (Fine.word (w := "cell") (by decide)).k0 (.cons ft.k0 (.cons fine_key' (.cons fz.k0 .nil)))).tup).mono (by decide) (by decide)
  exact ((Fines.cons (Fine.word (w := "at") (by decide)).k0 (.cons f1 (.cons (f2.mono (by decide) (Nat.le_refl _)) .nil))).tup).mono (by decide) (by decide)
include ft fz h1 h2 in
theorem fine_other : Fine 4 500 (otherD t z r) := by
  have f1 : Fine 2 80 (.tuple [.str "-", keyD, intD 1]) := ((Fines.cons (Fine.word (w := "-") (by decide)).k0 (.cons fine_key' (.cons (fine_int (by decide) (by decide)) .nil))).tup).mono (by decide) (by decide)
  have f2 : Fine 2 80 (.tuple [.str "*", keyD, keyD]) := ((Fines.cons (Fine.word (w := "*") (by decide)).k0 (.cons fine_key' (.cons fine_key' .nil))).tup).mono (by decide) (by decide)
  have f3 : Fine 3 176 (.tuple [.str "at", .tuple [.str "-", keyD, intD 1], .tuple [.str "*", keyD, keyD]]) := ((Fines.cons (Fine.word (w := "at") (by decide)).k0 (.cons f1 (.cons f2 .nil))).tup).mono (by decide) (by decide)
  exact ((Fines.cons (Fine.word (w := "at") (by decide)).k0 (.cons (fine_one ft fz h1 h2) (.cons f3 .nil))).tup).mono (by decide) (by decide)
include ft fz h1 h2 in
theorem fine_if : Fine 5 900 (ifD t z r) := by
  refine ((Fines.cons (Fine.word (w := "if") (by decide)).k0 (.cons (fine_key'.mono (show 1 ≤ 4 by decide) (Nat.le_refl _)) (.cons ((fine_one ft fz h1 h2).mono (by decide) (Nat.le_refl _)) (.cons (fine_other ft fz h1 h2) .nil)))).tup).mono (by decide) (by decide)
include ft fz h1 h2 in
theorem fine_cel : Fine 5 900 (celD t z r) := by
  refine ((Fines.cons (Fine.word (w := "cell") (by decide)).k0 (.cons ft.k0 (.cons (fine_other ft fz h1 h2) (.cons (Fine.word (w := "in") (by decide)).k0 .nil)))).tup).mono (by decide) (by decide)
end
section
variable {zs : List Str} {t z : Str} {r : Int} (ht : t ∈ zs ∧ t ≠ "#") (hz : z ∈ zs ∧ z ≠ "#") (hi : ("in" : Str) ∈ zs) (h1 : -(10 ^ 18) ≤ r) (h2 : r ≤ 10 ^ 18)
include ht hz h1 h2 in
theorem cx_one : Cx zs [] true 3 (oneD t z r) := .at_ true 2 _ _ (.op true 1 "+" _ _ (by decide) (.key 0) (.int true 0 r h1 h2)) (.cell true 1 t z _ ht hz (.key 0))
include ht hz h1 h2 in
theorem cx_other : Cx zs [] true 4 (otherD t z r) := .at_ true 3 _ _ (cx_one ht hz h1 h2) (.at_ true 2 _ _ (.op true 1 "-" _ _ (by decide) (.key 0) (.int true 0 1 (by decide) (by decide))) (.op true 1 "*" _ _ (by decide) (.key 0) (.key 0)))
include ht hz h1 h2 in
theorem cx_if : Cx zs [] true 5 (ifD t z r) := .iff true 4 _ _ _ (.key 3) ((cx_one ht hz h1 h2).mono (by decide)) (cx_other ht hz h1 h2)
include ht hz hi h1 h2 in
theorem cx_cel : Cx zs [] true 5 (celD t z r) := .cell true 4 t "in" _ ht ⟨hi, by decide⟩ (cx_other ht hz h1 h2)
end
section
variable {P : Program} {w : World} {K : PySem.W.Frag} {mg : Str → Option Value} {base : Heap}
theorem ok_bk {f f_draw f_pick : Addr} {fd d_draw d_pick : FuncData} {k : Nat} (F : Fun K "_law_bound_keys" "_law_bound_keys" s_law_bound_keys f fd)
    (G_draw : FnOk P w K mg base CX0 k f_draw d_draw ["_law_deck_here", "_law_most"] sp_draw) (g_draw : mg "_law_draw" = some (.ref f_draw)) (K_draw : PySem.W.keepIn K (.ref f_draw) = true) (b_draw : Binds K d_draw ["_law_deck_here", "_law_most"] [])
    (G_pick : FnOk P w K mg base CX0 k f_pick d_pick ["_law_deck_here", "_law_some"] (sp_pick K)) (g_pick : mg "_law_pick" = some (.ref f_pick)) (K_pick : PySem.W.keepIn K (.ref f_pick) = true) (b_pick : Binds K d_pick ["_law_deck_here", "_law_some"] []) :
    FnOk P w K mg base CX0 (k + 1) f fd ["_law_deck_here", "_law_world_here"] (sp_bk K) := by
  have nd := sc_law_bound_keys.nd
  refine F.ok sc_law_bound_keys (fun vs H Q E h => ?_) (fun cdv A outer s H vs Q E hr h => ?_)
  · obtain ⟨d, c, u, tl, cl, nl, N, ts, cs, ns, rfl, _⟩ := h
    rfl
  obtain ⟨d, c, u, tl, cl, nl, N, ts, cs, ns, rfl, D, hN, W, q⟩ := h
  have hu1 := hu_of hr
  refine ⟨_, (pss_cons (ps_par (i := 2) (j := 3) rfl nd rfl rfl (by decide) rfl rfl (pa_cons (pe_ix ix_list (pe_dget hu1 (pv 1) pe_str noSl_str) pe_int (fun _ _ => rfl)) (pa_cons (pe_ix ix_list (pe_dget hu1 (pv 1) pe_str noSl_str) pe_int (fun _ _ => rfl)) pa_nil)) (by rfl))
      (pss_cons (ps_set (i := 4) nd rfl (.inl rfl) (pe_tup (pa_cons pe_str (pa_cons (pe_tup (pa_cons pe_str (pa_cons (pe_tup (pa_cons pe_str pa_nil)) (pa_cons (pe_tup (pa_cons pe_str (pa_cons (pe_call G_draw hr (by rfl) g_draw K_draw b_draw .nil pass0 (pa_cons (pv 0) (pa_cons pe_int pa_nil))) pa_nil))) pa_nil)))) (pa_cons (pe_tup (pa_cons pe_str (pa_cons (pv 2) (pa_cons (pe_tup (pa_cons pe_str pa_nil)) (pa_cons (pv 3) pa_nil))))) pa_nil)))))
      (pss_cons (ps_set (i := 5) nd rfl (.inl rfl) (pe_tup (pa_cons pe_str (pa_cons (pv 4) (pa_cons (pe_tup (pa_cons pe_str (pa_cons (pe_tup (pa_cons pe_str (pa_cons (pe_tup (pa_cons pe_str pa_nil)) (pa_cons (pe_tup (pa_cons pe_str (pa_cons pe_int pa_nil))) pa_nil)))) (pa_cons (pe_tup (pa_cons pe_str (pa_cons (pe_tup (pa_cons pe_str pa_nil)) (pa_cons (pe_tup (pa_cons pe_str pa_nil)) pa_nil)))) pa_nil)))) pa_nil)))))
      (pss_cons (ps_set (i := 6) nd rfl (.inl rfl) (pe_lst (pa_cons (pv 4) (pa_cons (pv 5) (pa_cons (pe_tup (pa_cons pe_str (pa_cons (pe_tup (pa_cons pe_str pa_nil)) (pa_cons (pv 4) (pa_cons (pv 5) pa_nil))))) (pa_cons (pe_tup (pa_cons pe_str (pa_cons (pv 2) (pa_cons (pv 5) (pa_cons pe_str pa_nil))))) pa_nil))))))
      (pss_one (ps_ret (pe_tup (pa_cons (pe_tup (pa_cons pe_str (pa_cons (pv 2) (pa_cons (pe_call G_pick hr (by rfl) g_pick K_pick b_pick .nil pass0 (pa_cons (pv 0) (pa_cons (pv 6) pa_nil))) (pa_cons (pv 3) (pa_cons (pe_call G_pick hr (by rfl) g_pick K_pick b_pick .nil pass0 (pa_cons (pv 0) (pa_cons (pv 6) pa_nil))) pa_nil)))))) pa_nil)))))))), ?_⟩
  -- the first names
  obtain ⟨t, t', hts⟩ : ∃ t t', ts = t :: t' := by
    have := W.lt
    cases ts with
    | nil => cases this
    | cons a b => exact ⟨a, b, rfl⟩
  obtain ⟨z, z', hcs⟩ : ∃ z z', cs = z :: z' := by
    have := W.lc
    cases cs with
    | nil => cases this
    | cons a b => exact ⟨a, b, rfl⟩
  have htm : t ∈ ts := by rw [hts]; exact List.mem_cons_self
  have hzm : z ∈ cs := by rw [hcs]; exact List.mem_cons_self
  have nt := W.at' t htm
  have nz := W.ac z hzm
  have ft := Fine.str nt
  have fz := Fine.str nz
  refine ⟨.ref u, rfl, u, .ref tl, rfl, by rw [← wD_t tl cl nl]; exact DGet.k (k := .inr "tables") W.dct, tl, ts.map V.str, 0, .str t, rfl, rfl, .inl (.inl W.ht), by rw [hts]; exact at0, .ref u, rfl, u, .ref cl, rfl, by rw [← wD_c tl cl nl]; exact DGet.k (k := .inr "columns") W.dct, cl, cs.map V.str, 0, .str z, rfl, rfl, .inl (.inl W.hc), by rw [hcs]; exact at0, _, _, rfl, ?_⟩
  -- one
  refine ⟨h1000 (show 1 ≤ 1000 by decide), fun k1 nk1 => ?_⟩
  have D1 := D.same (same_upd (o := .tup [.str "key"]) nk1)
  refine ⟨.ref d, rfl, d, c, N, 5, rfl, D1, by omega, by decide, by decide, fun H1 r kk1 DD1 r0 r5 => ?_⟩
  have hr1 : -(10 ^ 18) ≤ r := by omega
  have hr2 : r ≤ 10 ^ 18 := by omega
  have b1 : Dp K H1 (.ref k1) keyD := dp_keep (kk1.t D1) _ _ rfl (new_tup (.cons (.str "key") .nil) rfl nk1)
  have K1 : Keep d c H H1 := (Keep.of (same_upd nk1)).trans kk1
  refine ⟨h1000 (show 2 ≤ 1000 by decide), fun i1 ni1 => ⟨h1000 (show 3 ≤ 1000 by decide), fun pl npl => ⟨.str t, rfl, h1000 (show 1 ≤ 1000 by decide), fun k2 nk2 => ⟨.str z, rfl, h1000 (show 4 ≤ 1000 by decide), fun c1 nc1 => ⟨h1000 (show 3 ≤ 1000 by decide), fun o1 no1 => ?_⟩⟩⟩⟩⟩
  have e1 := same_upd (o := .tup [.str "int", .int r]) ni1
  have b2 : Dp K _ (.ref i1) (intD r) := new_tup (.cons (.str "int") (.cons (.int r) .nil)) rfl ni1
  have e2 := same_upd (o := .tup [.str "+", .ref k1, .ref i1]) npl
  have b3 := new_tup (K := K) (.cons (.str "+") (.cons (dp_keep (KeepT.of e1) _ _ rfl b1) (.cons b2 .nil))) rfl npl
  have e3 := same_upd (o := .tup [.str "key"]) nk2
  have b4 : Dp K _ (.ref k2) keyD := new_tup (.cons (.str "key") .nil) rfl nk2
  have e4 := same_upd (o := .tup [.str "cell", .str t, .ref k2, .str z]) nc1
  have b5 := new_tup (K := K) (.cons (.str "cell") (.cons (.str t) (.cons b4 (.cons (.str z) .nil)))) rfl nc1
  have e5 := same_upd (o := .tup [.str "at", .ref pl, .ref c1]) no1
  have b6 : Dp K _ (.ref o1) (oneD t z r) := new_tup (K := K) (.cons (.str "at") (.cons (dp_keep (KeepT.of (e3.trans e4)) _ _ rfl b3) (.cons b5 .nil))) rfl no1
  have eA := e1.trans (e2.trans (e3.trans (e4.trans e5)))
  clear e1 e2 e3 e4 e5 b1 b2 b3 b4 b5
  revert b6 eA
  generalize upd (upd (upd (upd (upd H1 i1 (.tup [.str "int", .int r])) pl (.tup [.str "+", .ref k1, .ref i1])) k2 (.tup [.str "key"])) c1 (.tup [.str "cell", .str t, .ref k2, .str z])) o1 (.tup [.str "at", .ref pl, .ref c1]) = H2
  intro b6 eA
  -- the other
  refine ⟨.ref o1, rfl, h1000 (show 1 ≤ 1000 by decide), fun k3 nk3 => ⟨h1000 (show 2 ≤ 1000 by decide), fun i2 ni2 => ⟨h1000 (show 3 ≤ 1000 by decide), fun mi nmi => ⟨h1000 (show 1 ≤ 1000 by decide), fun k4 nk4 => ⟨h1000 (show 1 ≤ 1000 by decide), fun k5 nk5 => ⟨h1000 (show 3 ≤ 1000 by decide), fun tm ntm => ⟨h1000 (show 3 ≤ 1000 by decide), fun a2 na2 => ⟨h1000 (show 3 ≤ 1000 by decide), fun o2 no2 => ?_⟩⟩⟩⟩⟩⟩⟩⟩
  have e1 := same_upd (o := .tup [.str "key"]) nk3
  have b1 : Dp K _ (.ref k3) keyD := new_tup (.cons (.str "key") .nil) rfl nk3
  have e2 := same_upd (o := .tup [.str "int", .int 1]) ni2
  have b2 : Dp K _ (.ref i2) (intD 1) := new_tup (.cons (.str "int") (.cons (.int 1) .nil)) rfl ni2
  have e3 := same_upd (o := .tup [.str "-", .ref k3, .ref i2]) nmi
  have b3 := new_tup (K := K) (.cons (.str "-") (.cons (dp_keep (KeepT.of e2) _ _ rfl b1) (.cons b2 .nil))) rfl nmi
  have e4 := same_upd (o := .tup [.str "key"]) nk4
  have b4 : Dp K _ (.ref k4) keyD := new_tup (.cons (.str "key") .nil) rfl nk4
  have e5 := same_upd (o := .tup [.str "key"]) nk5
  have b5 : Dp K _ (.ref k5) keyD := new_tup (.cons (.str "key") .nil) rfl nk5
  have e6 := same_upd (o := .tup [.str "*", .ref k4, .ref k5]) ntm
  have b7 := new_tup (K := K) (.cons (.str "*") (.cons (dp_keep (KeepT.of e5) _ _ rfl b4) (.cons b5 .nil))) rfl ntm
  have e7 := same_upd (o := .tup [.str "at", .ref mi, .ref tm]) na2
  have b8 := new_tup (K := K) (.cons (.str "at") (.cons (dp_keep (KeepT.of (e4.trans (e5.trans e6))) _ _ rfl b3) (.cons b7 .nil))) rfl na2
  have e8 := same_upd (o := .tup [.str "at", .ref o1, .ref a2]) no2
  have eB := e1.trans (e2.trans (e3.trans (e4.trans (e5.trans (e6.trans e7)))))
  have b9 : Dp K _ (.ref o2) (otherD t z r) := new_tup (K := K) (.cons (.str "at") (.cons (dp_keep (KeepT.of eB) _ _ rfl b6) (.cons b8 .nil))) rfl no2
  have b6' := dp_keep (KeepT.of (eB.trans e8)) _ _ rfl b6
  have eC := eA.trans (eB.trans e8)
  clear e1 e2 e3 e4 e5 e6 e7 e8 eB b1 b2 b3 b4 b5 b7 b8 b6
  revert b6' b9 eC
  generalize upd (upd (upd (upd (upd (upd (upd (upd H2 k3 (.tup [.str "key"])) i2 (.tup [.str "int", .int 1])) mi (.tup [.str "-", .ref k3, .ref i2])) k4 (.tup [.str "key"])) k5 (.tup [.str "key"])) tm (.tup [.str "*", .ref k4, .ref k5])) a2 (.tup [.str "at", .ref mi, .ref tm])) o2 (.tup [.str "at", .ref o1, .ref a2]) = H3
  intro b9 b6 eC
  -- the list
  refine ⟨.ref o1, rfl, .ref o2, rfl, h1000 (show 1 ≤ 1000 by decide), fun k6 nk6 => ⟨.ref o1, rfl, .ref o2, rfl, h1000 (show 4 ≤ 1000 by decide), fun f1 nf1 => ⟨.str t, rfl, .ref o2, rfl, h1000 (show 4 ≤ 1000 by decide), fun g1 ng1 => ⟨h1000 (show 4 ≤ 1000 by decide), fun l nl => ?_⟩⟩⟩⟩
  have e1 := same_upd (o := .tup [.str "key"]) nk6
  have b1 : Dp K _ (.ref k6) keyD := new_tup (.cons (.str "key") .nil) rfl nk6
  have e2 := same_upd (o := .tup [.str "if", .ref k6, .ref o1, .ref o2]) nf1
  have b2 : Dp K _ (.ref f1) (ifD t z r) := new_tup (K := K) (.cons (.str "if") (.cons b1 (.cons (dp_keep (KeepT.of e1) _ _ rfl b6) (.cons (dp_keep (KeepT.of e1) _ _ rfl b9) .nil)))) rfl nf1
  have e3 := same_upd (o := .tup [.str "cell", .str t, .ref o2, .str "in"]) ng1
  have b3 : Dp K _ (.ref g1) (celD t z r) := new_tup (K := K) (.cons (.str "cell") (.cons (.str t) (.cons (dp_keep (KeepT.of (e1.trans e2)) _ _ rfl b9) (.cons (.str "in") .nil)))) rfl ng1
  have e4 := same_upd (o := .lst [.ref o1, .ref o2, .ref f1, .ref g1]) nl
  have eD := e1.trans (e2.trans (e3.trans e4))
  have c1' := dp_keep (KeepT.of eD) _ _ rfl b6
  have c2' := dp_keep (KeepT.of eD) _ _ rfl b9
  have c3' := dp_keep (KeepT.of (e3.trans e4)) _ _ rfl b2
  have c4' := dp_keep (KeepT.of e4) _ _ rfl b3
  have eE := eC.trans eD
  have hl : upd (upd (upd (upd H3 k6 (.tup [.str "key"])) f1 (.tup [.str "if", .ref k6, .ref o1, .ref o2])) g1 (.tup [.str "cell", .str t, .ref o2, .str "in"])) l (.lst [.ref o1, .ref o2, .ref f1, .ref g1]) l = some (.lst [.ref o1, .ref o2, .ref f1, .ref g1]) := upd_same
  have D4 := DD1.same eE
  have hln := (DD1.same (eC.trans (e1.trans (e2.trans e3)))).new nl
  clear e1 e2 e3 e4 eD b1 b2 b3
  revert c1' c2' c3' c4' eE hl D4
  generalize upd (upd (upd (upd H3 k6 (.tup [.str "key"])) f1 (.tup [.str "if", .ref k6, .ref o1, .ref o2])) g1 (.tup [.str "cell", .str t, .ref o2, .str "in"])) l (.lst [.ref o1, .ref o2, .ref f1, .ref g1]) = H4
  intro c1' c2' c3' c4' eE hl D4
  have ht2 : t ∈ nmx 2 ts cs ∧ t ≠ "#" := ⟨List.mem_cons_of_mem _ (List.mem_append_left _ htm), nm_hash nt⟩
  have hz2 : z ∈ nmx 2 ts cs ∧ z ≠ "#" := ⟨List.mem_cons_of_mem _ (List.mem_append_right _ (List.mem_append_left _ hzm)), nm_hash nz⟩
  have hi2 : ("in" : Str) ∈ nmx 2 ts cs := List.mem_cons_self
  have hall : ∀ v, v ∈ ([.ref o1, .ref o2, .ref f1, .ref g1] : List V) → GB K (nmx 2 ts cs) H4 v := fun v hv => by
    simp only [List.mem_cons, List.not_mem_nil, or_false] at hv
    rcases hv with rfl | rfl | rfl | rfl
    · exact ⟨_, c1', (fine_one ft fz hr1 hr2).mono (by decide) (by decide), (cx_one ht2 hz2 hr1 hr2).mono (by decide)⟩
    · exact ⟨_, c2', (fine_other ft fz hr1 hr2).mono (by decide) (by decide), (cx_other ht2 hz2 hr1 hr2).mono (by decide)⟩
    · exact ⟨_, c3', fine_if ft fz hr1 hr2, cx_if ht2 hz2 hr1 hr2⟩
    · exact ⟨_, c4', fine_cel ft fz hr1 hr2, cx_cel ht2 hz2 hi2 hr1 hr2⟩
  refine ⟨.str t, rfl, .ref d, rfl, .ref l, rfl, .inl ⟨d, c, l, N + 1, _, rfl, D4, by omega, .inl (.inl hl), List.cons_ne_nil _ _, (show 4 ≤ 1000 by decide), hln.1, hln.2, fun H5 v5 k5 D5 hv5 => ?_⟩⟩
  have hl5 := k5 _ _ hln.1 hln.2 hl
  have g5 := (hall v5 hv5).keep (k5.t D4)
  refine ⟨.str z, rfl, .ref d, rfl, .ref l, rfl, .inl ⟨d, c, l, N + 1 + 1, _, rfl, D5, by omega, .inl (.inl hl5), List.cons_ne_nil _ _, (show 4 ≤ 1000 by decide), hln.1, hln.2, fun H6 v6 k6 D6 hv6 => ?_⟩⟩
  have g6 := (hall v6 hv6).keep ((k5.t D4).trans (k6.t D5))
  obtain ⟨x5, p5, f5, cx5⟩ := g5.keep (k6.t D5)
  obtain ⟨x6, p6, f6, cx6⟩ := g6
  refine ⟨h1000 (show 5 ≤ 1000 by decide), fun p1 n1 => ⟨h1000 (show 1 ≤ 1000 by decide), fun p2 n2 => ?_⟩⟩
  have s1 := same_upd (o := .tup [.str "each", .str t, v5, .str z, v6]) n1
  have s2 := same_upd (o := .tup [.ref p1]) n2
  have fe : Fine 8 12000 (.tuple [.str "each", .str t, x5, .str z, x6]) := ((Fines.cons (Fine.word (w := "each") (by decide)).k0 (.cons ft.k0 (.cons f5 (.cons fz.k0 (.cons f6 .nil))))).tup).mono (by decide) (by decide)
  have sv : SV K (upd H6 p1 (.tup [.str "each", .str t, v5, .str z, v6])) (.ref p1) (.tuple [.str "each", .str t, x5, .str z, x6]) := by
    refine ⟨p1, "each", .str t, [v5, .str z, v6], rfl, upd_same, .inr (.inr ⟨.inr rfl, isLet_f (by decide), t, v5, z, v6, rfl, rfl, colD_p (.inr rfl), nt, nz⟩), new_tup (.cons (.str _) (.cons (.str t) (.cons p5 (.cons (.str z) (.cons p6 .nil))))) ?_ n1, fe, LetH.no (letNm_no (by decide)), fun e => ?_⟩
    · simp only [flatDs, flatD, f5.flat, f6.flat, Bool.and_self]
    · exact absurd e (by rw [isLet_f (by decide)]; decide)
  have KK : Keep d c H (upd (upd H6 p1 (.tup [.str "each", .str t, v5, .str z, v6])) p2 (.tup [.ref p1])) := (((K1.trans (Keep.of eE)).trans k5).trans k6).trans (Keep.of (s1.trans s2))
  refine q _ p2 [.ref p1] [_] KK ((D6.same (s1.trans s2)).mono (by omega)) upd_same (.cons (sv.keep (KeepT.of s2)) .nil) (show 1 ≤ 6 by decide) ?_
  exact .snoc [] _ .nil (.each t z x5 x6 htm hzm cx5 cx6)
end
end L19

namespace L19
open PySem PySem.Spec PyProof.Rows L2 GR WX TX RZ NdefX LamX
theorem svs_zip2 {K : PySem.W.Frag} {H : Hp} : ∀ {us : List V} {ds : List PyData}, SVs K H us ds → ∃ l : List St1, l.map (·.1) = us ∧ l.map (·.2) = ds ∧ ∀ s, s ∈ l → SV K H s.1 s.2
  | _, _, .nil => ⟨[], rfl, rfl, fun s hs => (nomatch hs)⟩
  | _, _, .cons (a := u) (b := d) h t => by
    obtain ⟨l, h1, h2, h3⟩ := svs_zip2 t
    refine ⟨(u, d) :: l, by rw [List.map_cons, h1], by rw [List.map_cons, h2], fun s hs => ?_⟩
    rcases List.mem_cons.mp hs with rfl | hs
    · exact h
    · exact h3 s hs
theorem seql_same {K : PySem.W.Frag} {H H' : Hp} {a : Addr} {xs : List V} (h : SqL K H a xs) (s : Same H H') : SqL K H' a xs := by
  rcases h with (h | ⟨o, h⟩) | h
  · exact .inl (.inl (s _ _ h))
  · exact .inl (.inr ⟨o, s _ _ h⟩)
  · exact .inr h
theorem Wd.keepB {H H' : Hp} {d c u tl cl nl B : Addr} {ts cs ns : List Str} (W : Wd H d c u tl cl nl ts cs ns) (k : ∀ b o, b ≠ d → b ≠ c → b ≠ B → H b = some o → H' b = some o) (n : H B = none) : Wd H' d c u tl cl nl ts cs ns :=
  ⟨k _ _ W.u0.1 W.u0.2 (ne_of_none W.dct n) W.dct, k _ _ W.t0.1 W.t0.2 (ne_of_none W.ht n) W.ht, k _ _ W.c0.1 W.c0.2 (ne_of_none W.hc n) W.hc, k _ _ W.n0.1 W.n0.2 (ne_of_none W.hn n) W.hn, W.t0, W.c0, W.n0, W.u0, W.lt, W.lc, W.ln, W.at', W.ac, W.an⟩
/-- the tables stay where only lists change -/
theorem TabsN.lsts {T : List NTab} {H H' : Hp} (hT : TabsN T H) (k : ∀ b o, (∀ xs, o ≠ .lst xs) → H b = some o → H' b = some o) : TabsN T H' := fun p hp => by
  obtain ⟨ps, h1, h2, h3⟩ := hT p hp
  refine ⟨ps, k _ _ (fun xs z => by cases z) h1, h2, fun pos cv hc => ?_⟩
  obtain ⟨c, e1, e2⟩ := h3 pos cv hc
  exact ⟨c, e1, k _ _ (fun xs z => by unfold CodeO at z; cases z) e2⟩
theorem TabsN.kd {T : List NTab} {H H' : Hp} {d c : Addr} {N : Int} (hT : TabsN T H) (D : Deck H d c N) (k : Keep d c H H') : TabsN T H' := by
  obtain ⟨cells, m, n, h1, h2, _⟩ := D
  refine L19.TabsN.lsts hT fun b o ne e => k b o (fun z => ?_) (fun z => ?_) e
  · rw [z, h1] at e
    exact ne _ (Option.some.inj e).symm
  · rw [z, h2] at e
    exact ne _ (Option.some.inj e).symm
theorem TabsN.up {T : List NTab} {H : Hp} {a : Addr} {xs : List V} {o : HO} (hT : TabsN T H) (h : H a = some (.lst xs)) : TabsN T (upd H a o) := L19.TabsN.lsts hT fun b ob ne e => by
  rw [upd_ne (fun z => by rw [z, h] at e; exact ne _ (Option.some.inj e).symm)]
  exact e
theorem Deck.ext {H H' : Hp} {d c : Addr} {N : Int} (D : Deck H d c N) (x : ExtN H H') : Deck H' d c N := by
  obtain ⟨cells, m, n, h1, h2, h3⟩ := D
  exact ⟨cells, m, n, x _ _ h1 (fun _ z => by cases z), x _ _ h2 (fun _ z => by cases z), h3⟩
abbrev s_law : Stmt := topS 38
abbrev N_law : List Str := ["_law_script", "_law_deck_here", "_law_turn", "_law_world_here", "_law_some", "_law_keys", "_law_k"]
theorem sc_law : FnScope N_law ["_law_script"] (defScope s_law) := ⟨rfl, rfl, rfl, by decide +kernel, rfl, by decide +kernel, by decide +kernel⟩
def sp_law (K : PySem.W.Frag) (T : List NTab) : Sp := fun vs H Q _ => ∃ (a : Addr) (ns : List Int), vs = [.ref a] ∧ SqL K H a (ns.map V.int) ∧ TabsN T H ∧ ∀ H', Q (.bl true) H'
section
variable {P : Program} {w : World} {K : PySem.W.Frag} {mg : Str → Option Value} {base : Heap}
theorem ok_law {TT : List NTab} {f f_deck f_draw f_pick f_world f_tran f_bk f_ri f_spr : Addr} {fd d_deck d_draw d_pick d_world d_tran d_bk d_ri d_spr : FuncData} {k : Nat} (F : Fun K "law" "law" s_law f fd)
    (G_deck : FnOk P w K mg base CX0 k f_deck d_deck ["_law_script"] (sp_deck K)) (g_deck : mg "_law_deck" = some (.ref f_deck)) (K_deck : PySem.W.keepIn K (.ref f_deck) = true) (b_deck : Binds K d_deck ["_law_script"] [])
    (G_draw : FnOk P w K mg base CX0 k f_draw d_draw ["_law_deck_here", "_law_most"] sp_draw) (g_draw : mg "_law_draw" = some (.ref f_draw)) (K_draw : PySem.W.keepIn K (.ref f_draw) = true) (b_draw : Binds K d_draw ["_law_deck_here", "_law_most"] [])
    (G_pick : FnOk P w K mg base CX0 k f_pick d_pick ["_law_deck_here", "_law_some"] (sp_pick K)) (g_pick : mg "_law_pick" = some (.ref f_pick)) (K_pick : PySem.W.keepIn K (.ref f_pick) = true) (b_pick : Binds K d_pick ["_law_deck_here", "_law_some"] [])
    (G_world : FnOk P w K mg base CX0 k f_world d_world ["_law_deck_here"] sp_world) (g_world : mg "_law_world" = some (.ref f_world)) (K_world : PySem.W.keepIn K (.ref f_world) = true) (b_world : Binds K d_world ["_law_deck_here"] [])
    (G_tran : FnOk P w K mg base CX0 k f_tran d_tran ps_tr (sp_tran K)) (g_tran : mg "_law_transaction" = some (.ref f_tran)) (K_tran : PySem.W.keepIn K (.ref f_tran) = true) (b_tran : Binds K d_tran ps_tr [])
    (G_bk : FnOk P w K mg base CX0 k f_bk d_bk ["_law_deck_here", "_law_world_here"] (sp_bk K)) (g_bk : mg "_law_bound_keys" = some (.ref f_bk)) (K_bk : PySem.W.keepIn K (.ref f_bk) = true) (b_bk : Binds K d_bk ["_law_deck_here", "_law_world_here"] [])
    (G_ri : FnG P w K mg base CX0 k f_ri d_ri ["_law_made", "_law_keys"] (sp_right K TT)) (g_ri : mg "_law_right" = some (.ref f_ri)) (K_ri : PySem.W.keepIn K (.ref f_ri) = true) (b_ri : Binds K d_ri ["_law_made", "_law_keys"] [])
    (G_spr : FnOk P w K mg base CX0 k f_spr d_spr ["_law_deck_here", "_law_some"] (sp_spread K)) (g_spr : mg "_law_spread" = some (.ref f_spr)) (K_spr : PySem.W.keepIn K (.ref f_spr) = true) (b_spr : Binds K d_spr ["_law_deck_here", "_law_some"] [])
    (mrange : mg "range" = none) (mmax : mg "max" = none) (mmin : mg "min" = none) (mlen : mg "len" = none) : FnG P w K mg base CX0 (k + 1) f fd ["_law_script"] (sp_law K TT) := by
  have nd := sc_law.nd
  refine ok_g F sc_law (fun vs H Q E h => ?_) (fun cdv A outer s H vs Q E hg hr h => ?_)
  · obtain ⟨a, ns, rfl, _⟩ := h
    rfl
  obtain ⟨a, ns, rfl, hS, hTT, q⟩ := h
  refine ⟨_, (pss_cons (ps_set (i := 1) nd rfl (.inr rfl) (pe_call G_deck hr (by rfl) g_deck K_deck b_deck .nil pass0 (pa_cons (pv 0) pa_nil)))
      (pss_cons (ps_for PassesOwn.never rfl (pi_range1 rfl mrange (pa_cons (pe_callB (call_max2 rfl) (by rfl) mmax boot_max (pa_cons pe_int (pa_cons (pe_callB (call_min2 rfl) (by rfl) mmin boot_min (pa_cons (pe_callB call_len_seq (by rfl) mlen PySem.boot_len (pa_cons (pv 0) pa_nil)) (pa_cons pe_int pa_nil))) pa_nil))) pa_nil)) (pg_name (i := 2) nd rfl (Or.inl rfl))
      (pss_cons (ps_set (i := 3) nd rfl (.inr rfl) (pe_call G_world hr (by rfl) g_world K_world b_world .nil pass0 (pa_cons (pv 1) pa_nil)))
        (pss_cons (ps_setLc (i := 4) (own := [("_law_k", 6)]) (te := tCall (sp_tran K) [] E0 (tCons (tVar 1) (tCons (tVar 3) (tCons (tC (.int 6)) (tCons (tC (.int 3)) tNil))))) rfl nd rfl rfl (sw_true rfl rfl rfl (by decide +kernel)) (pi_range1 rfl mrange (pa_cons (pe_op op_add pe_int (pe_call G_draw hr (by rfl) g_draw K_draw b_draw .nil pass0 (pa_cons (pv 1) (pa_cons pe_int pa_nil)))) pa_nil)) (blkOk_by (N := N_law) (sc := defScope s_law) (by decide +kernel)) (fun _ _ _ _ _ => (pg_name (i := 6) nd rfl (Or.inl rfl))) (fun _ _ _ _ _ => pts_nil) (fun _ _ _ _ _ => (pe_call G_tran hr (by rfl) g_tran K_tran b_tran .nil pass0 (pa_cons (pv 1) (pa_cons (pv 3) (pa_cons pe_int (pa_cons pe_int pa_nil)))))))
        (pss_cons (ps_expr (pe_bm PySem.F.plainAttrs_list PySem.F.slot_list_append PySem.F.type_list_append mt_append (pv 4) (pa_cons (pe_call G_bk hr (by rfl) g_bk K_bk b_bk .nil pass0 (pa_cons (pv 1) (pa_cons (pv 3) pa_nil))) pa_nil)))
        (pss_cons (ps_set (i := 5) nd rfl (.inl rfl) (pe_lst (pa_cons (pe_op op_sub (pe_call G_draw hr (by rfl) g_draw K_draw b_draw .nil pass0 (pa_cons (pv 1) (pa_cons pe_int pa_nil))) pe_int) (pa_cons pe_int (pa_cons (pe_call G_pick hr (by rfl) g_pick K_pick b_pick .nil pass0 (pa_cons (pv 1) (pa_cons (pe_lst (pa_cons (pe_op op_pow pe_int pe_int) (pa_cons (pe_op op_sub pe_int (pe_op op_pow pe_int pe_int)) (pa_cons (pe_op op_pow pe_int pe_int) pa_nil)))) pa_nil))) pa_nil)))))
        (pss_one (ps_if (pt_not (pt_val (pe_callG G_ri hg hr (by rfl) g_ri K_ri b_ri pass0 (pa_cons (pe_call G_spr hr (by rfl) g_spr K_spr b_spr .nil pass0 (pa_cons (pv 1) (pa_cons (pv 4) pa_nil))) (pa_cons (pv 5) pa_nil)))))
        (pss_one (ps_ret pe_bl))
        pss_nil)))))))
      (pss_one (ps_ret pe_bl)))), ?_⟩
  refine ⟨.ref a, rfl, a, ns, rfl, hS, fun H1 d c s1 n1 D1 => ?_⟩
  have hS1 : SqL K H1 a (ns.map V.int) := seql_same hS s1
  have hT1 : TabsN TT H1 := fun p hp => (hTT p hp).ext s1
  obtain ⟨m, hm, hm3⟩ : ∃ m : Nat, (if (if (3 : Int) < ((ns.map V.int).length : Int) then 3 else ((ns.map V.int).length : Int)) > 1 then (if (3 : Int) < ((ns.map V.int).length : Int) then 3 else ((ns.map V.int).length : Int)) else 1) = (m : Int) ∧ m ≤ 3 := by
    refine ⟨(if (if (3 : Int) < ((ns.map V.int).length : Int) then 3 else ((ns.map V.int).length : Int)) > 1 then (if (3 : Int) < ((ns.map V.int).length : Int) then 3 else ((ns.map V.int).length : Int)) else 1).toNat, ?_⟩
    split <;> split <;> omega
  refine ⟨.ref a, rfl, a, _, rfl, .inl hS1, _, _, rfl, _, _, rfl, ?_⟩
  rw [hm]
  refine ⟨(m : Int), rfl, by omega, by omega, ?_⟩
  rw [show ((m : Int)).toNat = m by omega]
  refine for_range (n := m) (fun i σ H' => ∃ y2 y3 y4 y5 y6, σ = [some (.ref a), some (.ref d), y2, y3, y4, y5, y6] ∧ Deck H' d c (2000000 * (i : Int)) ∧ TabsN TT H') ?_ ?_ ?_
  · exact ⟨none, none, none, none, none, rfl, D1.mono (by omega), hT1⟩
  · rintro i σ H2 hi ⟨y2, y3, y4, y5, y6, rfl, D2, hT2⟩
    refine ⟨.ref d, rfl, d, c, _, rfl, D2, by omega, fun H3 u tl cl nl ts cs nms k3 D3 nu W3 => ?_⟩
    have hT3 := L19.TabsN.kd hT2 D2 k3
    refine ⟨.ref d, rfl, d, c, _, 4, rfl, D3, by omega, by decide, by decide, fun H4 r k4 D4 r0 r4 => ?_⟩
    have hT4 := L19.TabsN.kd hT3 D3 k4
    obtain ⟨n, rfl⟩ := Int.eq_ofNat_of_zero_le r0
    refine ⟨1, (n : Int), rfl, rfl, 1 + (n : Int), rfl, by omega, by omega, fun B nB => ?_⟩
    rw [show (1 + (n : Int)).toNat = n + 1 by omega]
    have hBd := D4.new nB
    have W4 := W3.keep k4
    refine lc_range (n := n + 1) (fun j H' => ∃ T : List (Addr × List St1), H' B = some (.lst (T.map fun t => V.ref t.1)) ∧ T.length = j ∧ (∀ t, t ∈ T → H' t.1 = some (.tup (t.2.map (·.1))) ∧ t.2.length ≤ 6 ∧ ∀ s, s ∈ t.2 → SV K H' s.1 s.2) ∧ (∀ t, t ∈ T → Chain ts cs (tdat t)) ∧ Deck H' d c (2000000 * (i : Int) + 31 + 200000 * (j : Int)) ∧ TabsN TT H' ∧ ∀ b o, b ≠ d → b ≠ c → b ≠ B → H4 b = some o → H' b = some o) ?_ ?_ ?_
    · have sB := same_upd (o := .lst []) nB
      exact ⟨[], upd_same, rfl, fun t ht => (nomatch ht), fun t ht => (nomatch ht), (D4.same sB).mono (by omega), fun p hp => (hT4 p hp).ext sB, fun b o _ _ _ e => sB _ _ e⟩
    · rintro j H5 hj ⟨T, hB, hTl, hT, hC, D5, hT5, kB⟩
      have W5 := W4.keepB kB nB
      refine ⟨rfl, yes_then ⟨.ref d, rfl, .ref u, rfl, d, c, u, tl, cl, nl, _, 3, 6, ts, cs, nms, rfl, by decide, by decide, D5, by omega, W5, fun H6 p us ds k6 D6 hp hus hul hch => ?_⟩⟩
      obtain ⟨l, hl1, hl2, hl3⟩ := svs_zip2 hus
      have hB6 := k6 _ _ hBd.1 hBd.2 hB
      have kt6 := k6.t D5
      have ktB : KeepT H6 (upd H6 B (.lst ((T.map fun t => V.ref t.1) ++ [.ref p]))) := KeepT.lst hB6
      refine ⟨_, hB6, small1000 (by rw [List.length_map]; omega), T ++ [(p, l)], by rw [List.map_append]; exact upd_same, by rw [List.length_append, hTl]; rfl, fun t ht => ?_, fun t ht => ?_, (D6.upd hBd.1 hBd.2).mono (by omega), L19.TabsN.up (L19.TabsN.kd hT5 D5 k6) hB6, ?_⟩
      · rcases List.mem_append.mp ht with ht | ht
        · obtain ⟨g1, g2, g3⟩ := hT t ht
          exact ⟨ktB.1 _ _ (kt6.1 _ _ g1), g2, fun s hs => ((g3 s hs).keep kt6).keep ktB⟩
        · rw [List.mem_singleton.mp ht]
          refine ⟨ktB.1 _ _ (by rw [hp, ← hl1]), by rw [← List.length_map (f := (·.1)), hl1]; exact hul, fun s hs => (hl3 s hs).keep ktB⟩
      · rcases List.mem_append.mp ht with ht | ht
        · exact hC t ht
        · rw [List.mem_singleton.mp ht]
          show Chain ts cs (l.map (·.2))
          rw [hl2]
          exact hch
      · exact fun b o n1 n2 n3 e => by rw [upd_ne n3]; exact k6 _ _ n1 n2 (kB b o n1 n2 n3 e)
    · rintro H5 ⟨T, hB, hTl, hT, hC, D5, hT5, kB⟩
      have W5 := W4.keepB kB nB
      refine ⟨.ref B, rfl, .inl ⟨rfl, _, .inl (.inl hB)⟩, .ref d, rfl, .ref u, rfl, d, c, u, tl, cl, nl, _, ts, cs, nms, rfl, D5, by omega, W5, fun H6 p us ds k6 D6 hp hus hul hch => ?_⟩
      obtain ⟨l, hl1, hl2, hl3⟩ := svs_zip2 hus
      have hB6 := k6 _ _ hBd.1 hBd.2 hB
      have kt6 := k6.t D5
      have hT6 := L19.TabsN.kd hT5 D5 k6
      refine ⟨B, _, .ref p, rfl, rfl, hB6, small1000 (by rw [List.length_map]; omega), ?_⟩
      have ktB : KeepT H6 (upd H6 B (.lst ((T.map fun t => V.ref t.1) ++ [.ref p]))) := KeepT.lst hB6
      have hB7 : upd H6 B (.lst ((T.map fun t => V.ref t.1) ++ [.ref p])) B = some (.lst ((T ++ [(p, l)]).map fun t => V.ref t.1)) := by
        rw [List.map_append]
        exact upd_same
      have hTr : ∀ t, t ∈ T ++ [(p, l)] → upd H6 B (.lst ((T.map fun t => V.ref t.1) ++ [.ref p])) t.1 = some (.tup (t.2.map (·.1))) ∧ t.2.length ≤ 6 ∧ ∀ s, s ∈ t.2 → SV K (upd H6 B (.lst ((T.map fun t => V.ref t.1) ++ [.ref p]))) s.1 s.2 := fun t ht => by
        rcases List.mem_append.mp ht with ht | ht
        · obtain ⟨g1, g2, g3⟩ := hT t ht
          exact ⟨ktB.1 _ _ (kt6.1 _ _ g1), g2, fun s hs => ((g3 s hs).keep kt6).keep ktB⟩
        · rw [List.mem_singleton.mp ht]
          exact ⟨ktB.1 _ _ (by rw [hp, ← hl1]), by rw [← List.length_map (f := (·.1)), hl1]; exact hul, fun s hs => (hl3 s hs).keep ktB⟩
      have hC2 : ∀ t, t ∈ T ++ [(p, l)] → Chain ts cs (tdat t) := fun t ht => by
        rcases List.mem_append.mp ht with ht | ht
        · exact hC t ht
        · rw [List.mem_singleton.mp ht]
          show Chain ts cs (l.map (·.2))
          rw [hl2]
          exact hch
      have D7 := D6.upd (o := .lst ((T.map fun t => V.ref t.1) ++ [.ref p])) hBd.1 hBd.2
      have hT7 : TabsN TT (upd H6 B (.lst ((T.map fun t => V.ref t.1) ++ [.ref p]))) := L19.TabsN.up hT6 hB6
      have hTl2 : (T ++ [(p, l)]).length ≤ 5 := by
        rw [List.length_append, hTl]
        show n + 1 + 1 ≤ 5
        omega
      revert hB7 hTr D7 hT7
      generalize upd H6 B (.lst ((T.map fun t => V.ref t.1) ++ [.ref p])) = H7
      intro hB7 hTr D7 hT7
      generalize T ++ [(p, l)] = T2 at hB7 hTr hC2 hTl2
      have S7 : Sm K H7 B T2 := ⟨hB7, hTr, hTl2⟩
      -- the keys
      refine ⟨.ref d, rfl, d, c, _, 9, rfl, D7, by omega, by decide, by decide, fun H8 r8 k8 D8 r80 r89 => ⟨_, _, rfl, rfl, ?_⟩⟩
      have hT8 := L19.TabsN.kd hT7 D7 k8
      have S8 : Sm K H8 B T2 := S7.keep (k8.t D7) (by rw [S7.at']; exact k8 _ _ hBd.1 hBd.2 S7.at')
      refine ⟨.ref d, rfl, _, _, rfl, rfl, ⟨by decide, by decide⟩, _, _, rfl, rfl, ⟨by decide, by decide⟩, _, _, rfl, rfl, _, _, rfl, rfl, ⟨by decide, by decide⟩, h1000 (show 3 ≤ 1000 by decide), fun l2 nl2 => ?_⟩
      dsimp only
      rw [show (10 : Int) ^ (18 : Int).toNat = 10 ^ 18 from rfl, show (10 : Int) ^ (9 : Int).toNat = 10 ^ 9 from rfl]
      have sl := same_upd (o := .lst [.int (10 ^ 18), .int (0 - 10 ^ 18), .int (10 ^ 9)]) nl2
      have hln := D8.new nl2
      have hl2' : upd H8 l2 (.lst [.int (10 ^ 18), .int (0 - 10 ^ 18), .int (10 ^ 9)]) l2 = some (.lst [.int (10 ^ 18), .int (0 - 10 ^ 18), .int (10 ^ 9)]) := upd_same
      have D9 := D8.same sl
      have hT9 : TabsN TT (upd H8 l2 (.lst [.int (10 ^ 18), .int (0 - 10 ^ 18), .int (10 ^ 9)])) := fun p hp => (hT8 p hp).ext sl
      have S9 : Sm K (upd H8 l2 (.lst [.int (10 ^ 18), .int (0 - 10 ^ 18), .int (10 ^ 9)])) B T2 := S8.keep (KeepT.of sl) (by rw [S8.at']; exact sl _ _ S8.at')
      revert hl2' D9 hT9 S9
      clear sl
      generalize upd H8 l2 (.lst [.int (10 ^ 18), .int (0 - 10 ^ 18), .int (10 ^ 9)]) = H9
      intro hl2' D9 hT9 S9
      refine .inl ⟨d, c, l2, _, _, rfl, D9, by omega, .inl (.inl hl2'), List.cons_ne_nil _ _, (show 3 ≤ 1000 by decide), hln.1, hln.2, fun H10 v k10 D10 hv => ?_⟩
      have hT10 := L19.TabsN.kd hT9 D9 k10
      have S10 : Sm K H10 B T2 := S9.keep (k10.t D9) (by rw [S9.at']; exact k10 _ _ hBd.1 hBd.2 S9.at')
      obtain ⟨q3, rfl, hq3a, hq3b⟩ : ∃ q3 : Int, v = .int q3 ∧ -(10 ^ 18) ≤ q3 ∧ q3 ≤ 10 ^ 18 := by
        simp only [List.mem_cons, List.not_mem_nil, or_false] at hv
        rcases hv with rfl | rfl | rfl
        · exact ⟨_, rfl, by decide, by decide⟩
        · exact ⟨_, rfl, by decide, by decide⟩
        · exact ⟨_, rfl, by decide, by decide⟩
      refine ⟨h1000 (show 3 ≤ 1000 by decide), fun kl nkl => ?_⟩
      have sk := same_upd (o := .lst [.int (r8 - 4), .int 0, .int q3]) nkl
      have hkl : upd H10 kl (.lst [.int (r8 - 4), .int 0, .int q3]) kl = some (.lst ([r8 - 4, 0, q3].map V.int)) := upd_same
      have hkd := D10.new nkl
      have D11 := D10.same sk
      have hT11 : TabsN TT (upd H10 kl (.lst [.int (r8 - 4), .int 0, .int q3])) := fun p hp => (hT10 p hp).ext sk
      have S11 : Sm K (upd H10 kl (.lst [.int (r8 - 4), .int 0, .int q3])) B T2 := S10.keep (KeepT.of sk) (by rw [S10.at']; exact sk _ _ S10.at')
      revert hkl D11 hT11 S11
      clear sk
      generalize upd H10 kl (.lst [.int (r8 - 4), .int 0, .int q3]) = H11
      intro hkl D11 hT11 S11
      -- spread, looked at
      refine ⟨.ref d, rfl, .ref B, rfl, d, c, B, _, T2, rfl, D11, by omega, S11, hBd.1, hBd.2, fun H12 pl ms es k12 D12 L12 ok12 hpar _ => ?_⟩
      have hT12 := L19.TabsN.kd hT11 D11 k12
      have hkl12 := k12 _ _ hkd.1 hkd.2 hkl
      refine ⟨.ref kl, rfl, pl, kl, ts, cs, [r8 - 4, 0, q3], ms, es, rfl, L12, ok12, fun ds hds => ?_, ⟨W5.at', W5.ac, W5.lt, W5.lc⟩, hkl12, by show 3 ≤ 10; decide, fun k' hk' => ?_, hT12, fun H13 x13 hT13 => ⟨true, rfl, iteF ⟨_, _, _, _, _, rfl, (D12.ext x13).mono (by omega), hT13⟩⟩⟩
      · rw [hpar] at hds
        obtain ⟨t, ht, rfl⟩ := List.mem_map.mp hds
        exact hC2 t ht
      · simp only [List.mem_cons, List.not_mem_nil, or_false] at hk'
        rcases hk' with rfl | rfl | rfl
        · omega
        · decide
        · exact ⟨hq3a, hq3b⟩
  · rintro σ H2 ⟨y2, y3, y4, y5, y6, rfl, D2, _⟩
    exact q _
end
end L19

/-! GT: a law that shows things (GR) and whose program makes functions anew (tables of code objects, empty at the start, tracked from there on). -/
namespace GR
open PySem PySem.Spec PyProof.Rows L2
/-- a table without an entry -/
abbrev tab0 : Obj := { cls := .none, data := .fields #[] }
/-- at the law's start: the tables, and the script where it is not a written object -/
def startHp (ts : List Addr) (a : Addr) (own : Bool) (o : Obj) (xs : List V) : Hp := fun b => if b ∈ ts then some (.tbl #[]) else if own = true ∧ b = a then some (.frz o (.lst xs)) else none
section
variable {ts : List Addr} {a b : Addr} {own : Bool} {o : Obj} {xs : List V}
theorem startHp_tab (h : b ∈ ts) : startHp ts a own o xs b = some (.tbl #[]) := if_pos h
theorem startHp_own (h : a ∉ ts) : startHp ts a true o xs a = some (.frz o (.lst xs)) := (if_neg h).trans (if_pos ⟨rfl, rfl⟩)
theorem startHp_cases {u : HO} (h : startHp ts a own o xs b = some u) : (b ∈ ts ∧ u = .tbl #[]) ∨ (b ∉ ts ∧ own = true ∧ b = a ∧ u = .frz o (.lst xs)) := by
  unfold startHp at h
  split at h
  · rename_i hb
    exact .inl ⟨hb, (Option.some.inj h).symm⟩
  · rename_i hb
    split at h
    · rename_i hc
      exact .inr ⟨hb, hc.1, hc.2, (Option.some.inj h).symm⟩
    · cases h
end
theorem law_callGT {P : Program} {w : World} {K : PySem.W.Frag} {mg mb : Str → Option Value} {k : Nat} {fa a : Addr} {cs : List (Addr × Addr)} {fd : FuncData} {x : Str} {sp : Sp} {s₁ : Shared} {vs : List Value} {ns : List Int}
    (KX : K.In s₁.heap) (hns : s₁.heap.Ns mainGlobals mg) (hb : s₁.heap.Ns builtinsNs mb) (hbb : ∀ x : Str, x ≠ "__name__" → mb x = bootBuiltins x) (hlim : s₁.heap.NoLimit) (hg : s₁.gens = #[])
    (hT : ∀ p ∈ cs, s₁.heap.get? p.2 = some tab0) (nT : ∀ p ∈ cs, K.lookup p.2 = none) (hC : ∀ p ∈ cs, PySem.W.codeHdIn K p.1 p.2 = true)
    (hbm : ∃ (bm : Addr) (ob : Obj), mg "__builtins__" = some (.ref bm) ∧ bm ≠ builtinsNs ∧ s₁.heap.get? bm = some ob ∧ ob.cls = .type "module" ∧ ob.dict = some builtinsNs ∧ ob.data = .plain)
    (ha : s₁.heap.get? a = some { cls := .type "list", data := .seq vs.toArray }) (hi : IntsAre vs ns) (hl : ns.length ≤ sizeLine) (hr : Room k callerA)
    (F : ∀ base : Heap, K.In base → base.Ns mainGlobals mg → (∀ p ∈ cs, LamX.TabB base mg p.1 p.2) → FnG P w K mg base CX0 k fa fd [x] sp) (hbind : ∀ (s : Shared) (u : Value), BindsTo s fd ⟨[u], []⟩ [(x, u)])
    (hsp : ∀ H : Hp, (∀ p ∈ cs, H p.2 = some (.tbl #[])) → SqL K H a (ns.map V.int) → sp [.ref a] H (fun v _ => v = .bl true) fun _ _ _ => False) :
    codeAny (model P w) callerA (.call (.ref fa) ⟨[.ref a], []⟩) (fun r s' => r = .ok (.ret (.bool true)) ∧ OldK s₁.heap s'.heap ∧ s'.os = s₁.os ∧ AllBare s'.gens) s₁ := by
  have rv := vals_ints hi
  have tabAt : ∀ {b : Addr}, b ∈ cs.map (·.2) → s₁.heap.get? b = some tab0 := fun {b} hb => by
    obtain ⟨p, hp, rfl⟩ := List.mem_map.mp hb
    exact hT p hp
  have aNot : a ∉ cs.map (·.2) := fun z => by
    have e := tabAt z
    rw [ha] at e
    have e2 : Data.seq vs.toArray _ = Data.fields #[] := congrArg Obj.data (Option.some.inj e)
    cases e2
  -- the tracked heap
  obtain ⟨own, hown, hown2⟩ : ∃ own : Bool, (own = true → K.lookup a = none) ∧ (own = false → ∃ o, K.lookup a = some o) := by
    cases e : K.lookup a with
    | none => exact ⟨true, fun _ => rfl, fun z => by cases z⟩
    | some o => exact ⟨false, (fun z => by cases z), fun _ => ⟨o, rfl⟩⟩
  let so : Obj := { cls := .type "list", data := .seq vs.toArray }
  have hSp : ∃ H : Hp, H = startHp (cs.map (·.2)) a own so (ns.map V.int) := ⟨_, rfl⟩
  obtain ⟨H, hH⟩ := hSp
  have cases_ : ∀ {b : Addr} {u : HO}, H b = some u → (b ∈ cs.map (·.2) ∧ u = .tbl #[]) ∨ (b ∉ cs.map (·.2) ∧ own = true ∧ b = a ∧ u = .frz so (.lst (ns.map V.int))) := fun {b u} e => by
    rw [hH] at e
    exact startHp_cases e
  have htab : ∀ p ∈ cs, H p.2 = some (.tbl #[]) := fun p hp => by
    rw [hH]
    exact startHp_tab (List.mem_map.mpr ⟨p, hp, rfl⟩)
  have hseq : SqL K H a (ns.map V.int) := by
    cases own with
    | true =>
      refine .inl (.inr ⟨so, ?_⟩)
      rw [hH]
      exact startHp_own aNot
    | false =>
      obtain ⟨o, ho⟩ := hown2 rfl
      have e := KX a o ho
      rw [ha] at e
      cases e
      refine .inr ⟨_, vs.toArray, _, ho, rfl, rfl, rfl, ?_, by simpa using rv⟩
      rw [List.size_toArray, hi.length]
      exact hl
  have hok : HOk P w H s₁.heap := fun b u e => by
    rcases cases_ e with ⟨hb, rfl⟩ | ⟨_, _, rfl, rfl⟩
    · exact tabAt hb
    · refine ⟨ha, ?_, vs, _, rv, ha⟩
      rw [List.length_map]
      exact hl
  -- what is not tracked
  have free : ∀ {b : Addr} {o : Obj}, s₁.heap.get? b = some o → (∀ us m, o.data ≠ .seq us m) → o.data ≠ .fields #[] → H b = none := fun {b o} e n1 n2 => by
    cases q : H b with
    | none => rfl
    | some u =>
      rcases cases_ q with ⟨hb, _⟩ | ⟨_, _, rfl, _⟩
      · rw [tabAt hb] at e
        cases e
        exact absurd rfl n2
      · rw [ha] at e
        cases e
        exact absurd rfl (n1 _ _)
  have nsHid : ∀ {b : Addr} {m : Str → Option Value}, s₁.heap.Ns b m → (hidT s₁.heap H).Ns b m := fun {b m} h => by
    obtain ⟨o, es, ep, e, d, r⟩ := h
    refine ns_hid ⟨o, es, ep, e, d, r⟩ (free e (fun us m z => ?_) fun z => ?_)
    · rw [d] at z
      cases z
    · rw [d] at z
      cases z
  have inB : K.In (hidT s₁.heap H) := fun b o e => by
    refine hidT_get (KX b o e) ?_
    cases q : H b with
    | none => rfl
    | some u =>
      rcases cases_ q with ⟨hb, _⟩ | ⟨_, h1, rfl, _⟩
      · obtain ⟨p, hp, rfl⟩ := List.mem_map.mp hb
        rw [nT p hp] at e
        cases e
      · rw [hown h1] at e
        cases e
  have gB := nsHid hns
  have md : Mod K mg (hidT s₁.heap H) := by
    refine ⟨inB, gB, ⟨mb, nsHid hb, hbb⟩, ?_⟩
    obtain ⟨mc, l1, l2⟩ := hlim
    exact ⟨mc, nsHid l1, l2⟩
  have noMain : ∀ p ∈ cs, mainGlobals ≠ p.2 := fun p hp z => by
    obtain ⟨o, es, ep, e, d, _⟩ := hns
    rw [z, hT p hp] at e
    cases e
    cases d
  have tabs : ∀ p ∈ cs, LamX.TabB (hidT s₁.heap H) mg p.1 p.2 := fun p hp => by
    refine NdefX.tabB_of_K inB (hC p hp) ?_ (noMain p hp)
    obtain ⟨bm, ob, b1, b2, b3, b4, b5, b6⟩ := hbm
    refine ⟨bm, ob, b1, b2, fun z => ?_, fun z => ?_, hidT_get b3 (free b3 (fun us m z => ?_) fun z => ?_), b4, b5, b6⟩
    · obtain ⟨o, es, ep, e, d, _⟩ := hns
      rw [z, e] at b3
      cases b3
      rw [d] at b6
      cases b6
    · rw [z, hT p hp] at b3
      cases b3
      cases b6
    · rw [b6] at z
      cases z
    · rw [b6] at z
      cases z
  have start0 : Env0 P w K mg (hidT s₁.heap H) callerA [] s₁ H := by
    constructor
    · rfl
    · exact md
    · exact fun b o e => of_hidT e
    · exact Nat.le_of_eq (hidT_size _ _)
    · trivial
    · intro b hb
      exact absurd (show b ∈ ([] : List Addr) from hb) (by simp)
    · exact hok
    · exact .of_eq hg
  have went := (F _ inB gB tabs).go callerA [] s₁ H ⟨[.ref a], []⟩ [.ref a] [.ref a] (fun v _ => v = .bl true) (fun _ _ _ => False) rfl hr start0 (hbind s₁ (.ref a)) (.cons rfl .nil) (hsp H htab hseq)
  refine codeAny_mono went ?_
  rintro (er | fl) s' h
  · exact False.elim h
  cases fl with
  | next => exact False.elim h
  | brk => exact False.elim h
  | cont => exact False.elim h
  | ret u =>
    obtain ⟨v, H', os, bare, un, ok', rv', q⟩ := h
    cases (show v = .bl true from q)
    cases (show u = Value.bool true from rv')
    have same : ∀ b o, b ∉ cs.map (·.2) → s₁.heap.get? b = some o → s'.heap.get? b = some o := fun b o hb e => by
      cases z : H b with
      | none => exact un.keep b o e z (fun m => absurd (show b ∈ ([] : List Addr) from m) (by simp)) (by simp)
      | some u =>
        rcases cases_ z with ⟨hb', _⟩ | ⟨_, _, rfl, rfl⟩
        · exact absurd hb' hb
        · have e2 := (ok' b _ (un.frzs b so _ z)).1
          rw [ha] at e
          cases e
          exact e2
    have grew : ∀ p ∈ cs, ∃ more : Array Value, s'.heap.get? p.2 = some { cls := .none, data := .fields more } := fun p hp => by
      obtain ⟨more, z⟩ := un.tbls p.2 #[] (htab p hp)
      exact ⟨_, ok' p.2 _ z⟩
    refine ⟨rfl, ⟨fun b o e => ?_, fun b o e => ?_⟩, os, bare⟩
    · by_cases hb : b ∈ cs.map (·.2)
      · obtain ⟨p, hp, rfl⟩ := List.mem_map.mp hb
        obtain ⟨more, hm⟩ := grew p hp
        rw [hT p hp] at e
        cases e
        refine .inr (.inl ⟨((PySem.W.codeHd_of_K KX (hC p hp)).tab (hT p hp)).isCodeTable, rfl, #[], more, rfl, ?_⟩)
        rw [hm, Array.empty_append]
      · exact .inl (same b o hb e)
    · by_cases hb : b ∈ cs.map (·.2)
      · obtain ⟨p, hp, rfl⟩ := List.mem_map.mp hb
        obtain ⟨more, hm⟩ := grew p hp
        exact ⟨_, hm⟩
      · exact ⟨o, same b o hb e⟩
theorem walk_gt {l : PySem.W.OpenLaw} {n k : Nat} {q : Program} {loose : List Str} {XP : (Str → Option Value) → Heap → Prop} {YP : World → Heap → Prop} {d : DefRec} {K : Params → PySem.W.Frag} {cs : List (Addr × Addr)} {sp : PySem.W.Frag → Sp} {x : Str}
    (hn : l.most = some n) (hn2 : n ≤ sizeLine) (hdf : d.params.defaults = []) (hr : Room k callerA)
    (hY : ∀ (w : World) (h : Heap), YP w h → (K w.params).In h) (hT : ∀ (w : World) (h : Heap), YP w h → ∀ p ∈ cs, h.get? p.2 = some tab0)
    (nT : ∀ w : World, ∀ p ∈ cs, (K w.params).lookup p.2 = none) (hC : ∀ w : World, ∀ p ∈ cs, PySem.W.codeHdIn (K w.params) p.1 p.2 = true)
    (F : ∀ (w : World) (mg : Str → Option Value) (fa : Addr) (h : Heap), (K w.params).In h → h.Ns mainGlobals mg → mg d.name = some (.ref fa) →
      ∃ fd : FuncData, (∀ (s : Shared) (u : Value), BindsTo s fd ⟨[u], []⟩ [(x, u)]) ∧
        ∀ base : Heap, (K w.params).In base → base.Ns mainGlobals mg → (∀ p ∈ cs, LamX.TabB base mg p.1 p.2) → FnG l.prog w (K w.params) mg base CX0 k fa fd [x] (sp (K w.params)))
    (hsp : ∀ (K : PySem.W.Frag) (H : Hp) (a : Addr) (ns : List Int), ns.length ≤ n → (∀ p ∈ cs, H p.2 = some (.tbl #[])) → SqL K H a (ns.map V.int) → sp K [.ref a] H (fun v _ => v = .bl true) fun _ _ _ => False) :
    PySem.W.WalkO q loose XP YP l.row.toRowW d [] (fun f vs => PySem.call f vs) := by
  apply Att.attach_call hn hdf
  intro w s₀ s₁ mg mb fa o pm cd doc a vs ns G Y ho hd hcd hmg hobj hints hlen hg
  obtain ⟨fd, bnd, keeps⟩ := F w mg fa _ (hY w _ Y) G.T.g hmg
  exact law_callGT (hY w _ Y) G.T.g G.T.b G.T.builtins G.T.nolimit hg (hT w _ Y) (nT w) (hC w) G.T.bmain hobj hints (Nat.le_trans hlen hn2) hr keeps bnd (fun H => hsp _ H a ns hlen)
end GR

namespace L19
open PySem PySem.Spec PyProof.Rows L2 GR WX TX
/-- a def stands in the text's top -/
def Has (K : PySem.W.Frag) (x : Str) (st : Stmt) : Prop := ∃ (f : Addr) (fd : FuncData), PySem.W.nsIn K mainGlobals x = some (some (.ref f)) ∧ Fun K x x st f fd
theorem has_mk {K : PySem.W.Frag} {x : Str} {st : Stmt} {f : Addr} {oc : Value} {od an : Option Addr} {osl : Array (Option Value)} {kV doc pm cdv ct : Value} (a : PySem.W.nsIn K mainGlobals x = some (some (.ref f)))
    (l : K.lookup f = some ⟨oc, od, .func (PySem.W.fnOf x x (defArgs st) (defBody st) (defScope st) .none kV doc pm an cdv ct), osl⟩) (c : PySem.W.codeIn K cdv x = true) (k : PySem.W.keepIn K (.ref f) = true) : Has K x st := ⟨f, _, a, fun_mk l c k⟩
abbrev TTs (PK PV : Addr) : List NdefX.NTab := [(PK, nmK), (PV, nmV)]
theorem all2 {p q : Addr × Addr} {R : Addr × Addr → Prop} (h1 : R p) (h2 : R q) : ∀ x ∈ [p, q], R x := fun x hx => by
  rcases List.mem_cons.mp hx with rfl | hx
  · exact h1
  · rw [List.mem_singleton.mp hx]
    exact h2
theorem tabs2 {h : Heap} {cK PK cV PV : Addr} (h1 : h.get? PK = some GR.tab0) (h2 : h.get? PV = some GR.tab0) : ∀ p ∈ [(cK, PK), (cV, PV)], h.get? p.2 = some GR.tab0 := all2 h1 h2
theorem tts_mk {H : Hp} {cK PK cV PV : Addr} (h : ∀ p ∈ [(cK, PK), (cV, PV)], H p.2 = some (.tbl #[])) : NdefX.TabsN (TTs PK PV) H := fun p hp => by
  rcases List.mem_cons.mp hp with rfl | hp
  · exact NdefX.TabN.nil (h (cK, PK) List.mem_cons_self)
  · rw [List.mem_singleton.mp hp]
    exact NdefX.TabN.nil (h (cV, PV) (List.mem_cons_of_mem _ List.mem_cons_self))
/-- a written tuple of texts -/
def KTx (K : PySem.W.Frag) (p : Addr) (fs : List Str) : Prop := ∀ H, SqT K H p (fs.map V.str)
theorem ktx_mk {K : PySem.W.Frag} {p : Addr} {fs : List Str} {d : Option Addr} {its : Array Value} {n : Nat} {sl : Array (Option Value)} (l : K.lookup p = some ⟨.type "tuple", d, .seq its n, sl⟩) (hv : Vals (fs.map V.str) its.toList) (hs : fs.length ≤ 100) : KTx K p fs := fun H =>
  .inr ⟨_, its, n, l, rfl, rfl, by have h1 := hv.length; rw [List.length_map] at h1; have h2 : its.toList.length = its.size := Array.length_toList ..; exact small_le (by omega), hv⟩
theorem flds_mk {K : PySem.W.Frag} {w : World} {fA : Addr} {es : Array DictEntry} {n : Nat} (l : K.lookup fA = some ⟨.type "dict", none, .dict es n, #[]⟩) (kl : PySem.W.KeysLit w.params es.toList)
    {p0 : Addr} (q0 : PySem.W.nsIn K fA "int" = some (some (.ref p0))) (r0 : KTx K p0 ["value"])
    {p1 : Addr} (q1 : PySem.W.nsIn K fA "var" = some (some (.ref p1))) (r1 : KTx K p1 ["name"])
    {p2 : Addr} (q2 : PySem.W.nsIn K fA "key" = some (some (.ref p2))) (r2 : KTx K p2 [])
    {p3 : Addr} (q3 : PySem.W.nsIn K fA "let" = some (some (.ref p3))) (r3 : KTx K p3 ["position"])
    {p4 : Addr} (q4 : PySem.W.nsIn K fA "cell" = some (some (.ref p4))) (r4 : KTx K p4 ["name", "free", "name"])
    {p5 : Addr} (q5 : PySem.W.nsIn K fA "+" = some (some (.ref p5))) (r5 : KTx K p5 ["free", "free"])
    {p6 : Addr} (q6 : PySem.W.nsIn K fA "-" = some (some (.ref p6))) (r6 : KTx K p6 ["free", "free"])
    {p7 : Addr} (q7 : PySem.W.nsIn K fA "*" = some (some (.ref p7))) (r7 : KTx K p7 ["free", "free"])
    {p8 : Addr} (q8 : PySem.W.nsIn K fA "<" = some (some (.ref p8))) (r8 : KTx K p8 ["free", "free"])
    {p9 : Addr} (q9 : PySem.W.nsIn K fA "=" = some (some (.ref p9))) (r9 : KTx K p9 ["free", "free"])
    {p10 : Addr} (q10 : PySem.W.nsIn K fA "if" = some (some (.ref p10))) (r10 : KTx K p10 ["free", "free", "free"])
    {p11 : Addr} (q11 : PySem.W.nsIn K fA "at" = some (some (.ref p11))) (r11 : KTx K p11 ["free", "bound"])
    {p12 : Addr} (q12 : PySem.W.nsIn K fA "count" = some (some (.ref p12))) (r12 : KTx K p12 ["name", "extra", "bound", "bound"])
    {p13 : Addr} (q13 : PySem.W.nsIn K fA "sum" = some (some (.ref p13))) (r13 : KTx K p13 ["name", "extra", "bound", "bound", "bound"])
    {p14 : Addr} (q14 : PySem.W.nsIn K fA "most" = some (some (.ref p14))) (r14 : KTx K p14 ["name", "extra", "bound", "bound", "bound", "free"])
    {p15 : Addr} (q15 : PySem.W.nsIn K fA "first" = some (some (.ref p15))) (r15 : KTx K p15 ["name", "extra", "bound", "bound", "free"])
    : Flds K w fA := by
  intro wd fs h
  simp only [table, List.mem_cons, List.not_mem_nil, or_false, Prod.mk.injEq] at h
  rcases h with ⟨rfl, rfl⟩ | ⟨rfl, rfl⟩ | ⟨rfl, rfl⟩ | ⟨rfl, rfl⟩ | ⟨rfl, rfl⟩ | ⟨rfl, rfl⟩ | ⟨rfl, rfl⟩ | ⟨rfl, rfl⟩ | ⟨rfl, rfl⟩ | ⟨rfl, rfl⟩ | ⟨rfl, rfl⟩ | ⟨rfl, rfl⟩ | ⟨rfl, rfl⟩ | ⟨rfl, rfl⟩ | ⟨rfl, rfl⟩ | ⟨rfl, rfl⟩
  · exact ⟨p0, ⟨es, n, _, l, kl, q0, rfl⟩, r0⟩
  · exact ⟨p1, ⟨es, n, _, l, kl, q1, rfl⟩, r1⟩
  · exact ⟨p2, ⟨es, n, _, l, kl, q2, rfl⟩, r2⟩
  · exact ⟨p3, ⟨es, n, _, l, kl, q3, rfl⟩, r3⟩
  · exact ⟨p4, ⟨es, n, _, l, kl, q4, rfl⟩, r4⟩
  · exact ⟨p5, ⟨es, n, _, l, kl, q5, rfl⟩, r5⟩
  · exact ⟨p6, ⟨es, n, _, l, kl, q6, rfl⟩, r6⟩
  · exact ⟨p7, ⟨es, n, _, l, kl, q7, rfl⟩, r7⟩
  · exact ⟨p8, ⟨es, n, _, l, kl, q8, rfl⟩, r8⟩
  · exact ⟨p9, ⟨es, n, _, l, kl, q9, rfl⟩, r9⟩
  · exact ⟨p10, ⟨es, n, _, l, kl, q10, rfl⟩, r10⟩
  · exact ⟨p11, ⟨es, n, _, l, kl, q11, rfl⟩, r11⟩
  · exact ⟨p12, ⟨es, n, _, l, kl, q12, rfl⟩, r12⟩
  · exact ⟨p13, ⟨es, n, _, l, kl, q13, rfl⟩, r13⟩
  · exact ⟨p14, ⟨es, n, _, l, kl, q14, rfl⟩, r14⟩
  · exact ⟨p15, ⟨es, n, _, l, kl, q15, rfl⟩, r15⟩
/-- a def of the top whose code object is known -/
def HasC (K : PySem.W.Frag) (x : Str) (st : Stmt) (c : Addr) : Prop := ∃ (f : Addr) (fd : FuncData), PySem.W.nsIn K mainGlobals x = some (some (.ref f)) ∧ CLo.FunC K x x st f fd c
theorem has_mkC {K : PySem.W.Frag} {x : Str} {st : Stmt} {f c : Addr} {oc : Value} {od an : Option Addr} {osl : Array (Option Value)} {kV doc pm ct : Value} (a : PySem.W.nsIn K mainGlobals x = some (some (.ref f)))
    (l : K.lookup f = some ⟨oc, od, .func (PySem.W.fnOf x x (defArgs st) (defBody st) (defScope st) .none kV doc pm an (.ref c) ct), osl⟩) (cc : PySem.W.codeIn K (.ref c) x = true) (k : PySem.W.keepIn K (.ref f) = true) : HasC K x st c := ⟨f, _, a, ⟨⟨oc, od, kV, doc, pm, an, ct, osl, rfl, l, cc⟩, k⟩⟩
theorem all_mk {P : Program} {w : World} {K : PySem.W.Frag} {h : Heap} {mg : Str → Option Value} {fa : Addr} {cK PK cV PV : Addr} (hne : PK ≠ PV) (X : K.In h) (G : h.Ns mainGlobals mg) (hfa : mg "law" = some (.ref fa))
    (X_contained : Has K "contained" s_contained)
    (X_contained_free : Has K "contained_free" s_contained_free)
    (X_contained_of : Has K "contained_of" s_contained_of)
    (X_with_contained_of : Has K "with_contained_of" s_with_contained_of)
    (X_folded : Has K "folded" s_folded)
    (X_one_deeper : Has K "one_deeper" s_one_deeper)
    (X_all_parts : Has K "all_parts" s_all_parts)
    (X_rows_of : Has K "rows_of" s_rows_of)
    (X_has_free_key : Has K "has_free_key" s_has_free_key)
    (X_is_closed : Has K "is_closed" s_is_closed)
    (X_variables_of : Has K "variables_of" s_variables_of)
    (X_keyed : HasC K "keyed" s_keyed cK)
    (X_with_variables : HasC K "with_variables" s_with_variables cV)
    (X_statement_at : Has K "statement_at" s_statement_at)
    (X_start_of : Has K "start_of" s_start_of)
    (X_lets_at : Has K "lets_at" s_lets_at)
    (X_slot_expression : Has K "slot_expression" s_slot_expression)
    (X_expression_of : Has K "expression_of" s_expression_of)
    (X_with_lets : Has K "with_lets" s_with_lets)
    (X_law_deck : Has K "_law_deck" s_law_deck)
    (X_law_draw : Has K "_law_draw" s_law_draw)
    (X_law_pick : Has K "_law_pick" s_law_pick)
    (X_law_names : Has K "_law_names" s_law_names)
    (X_law_world : Has K "_law_world" s_law_world)
    (X_law_expression : Has K "_law_expression" s_law_expression)
    (X_law_statement : Has K "_law_statement" s_law_statement)
    (X_law_transaction : Has K "_law_transaction" s_law_transaction)
    (X_law_spread : Has K "_law_spread" s_law_spread)
    (X_law_put_for : Has K "_law_put_for" s_law_put_for)
    (X_law_due : Has K "_law_due" s_law_due)
    (X_law_right : Has K "_law_right" s_law_right)
    (X_law_bound_keys : Has K "_law_bound_keys" s_law_bound_keys)
    (X_law : Has K "law" s_law)
    (z_list : PySem.W.nsIn K mainGlobals "list" = some none) (z_sum : PySem.W.nsIn K mainGlobals "sum" = some none) (z_len : PySem.W.nsIn K mainGlobals "len" = some none) (z_range : PySem.W.nsIn K mainGlobals "range" = some none) (z_int : PySem.W.nsIn K mainGlobals "int" = some none) (z_repr : PySem.W.nsIn K mainGlobals "repr" = some none) (z_tuple : PySem.W.nsIn K mainGlobals "tuple" = some none) (z_min : PySem.W.nsIn K mainGlobals "min" = some none) (z_max : PySem.W.nsIn K mainGlobals "max" = some none) (z_sorted : PySem.W.nsIn K mainGlobals "sorted" = some none) (z_zip : PySem.W.nsIn K mainGlobals "zip" = some none)
    
    {fA : Addr} (z_FIELDS : PySem.W.nsIn K mainGlobals "FIELDS" = some (some (.ref fA))) (T_FIELDS : Flds K w fA) {aA : Addr} (z_ALL : PySem.W.nsIn K mainGlobals "ALL_PARTS" = some (some (.ref aA))) (T_ALL : KTx K aA W2)
    : ∃ fd : FuncData, (∀ (s : Shared) (v : Value), BindsTo s fd ⟨[v], []⟩ [("_law_script", v)]) ∧ ∀ base : Heap, K.In base → base.Ns mainGlobals mg → (∀ p ∈ [(cK, PK), (cV, PV)], LamX.TabB base mg p.1 p.2) → FnG P w K mg base CX0 9 fa fd ["_law_script"] (sp_law K (TTs PK PV)) := by
  obtain ⟨fcontained, dcontained, acontained, Fcontained⟩ := X_contained
  have gcontained := PySem.W.mg_of X G acontained
  have bcontained : Binds K dcontained ["expression"] [] := Fcontained.binds (ps := ["expression"]) fun _ _ _ _ _ _ us hl => match us, hl with | [_], _ => rfl
  obtain ⟨fcontained_free, dcontained_free, acontained_free, Fcontained_free⟩ := X_contained_free
  have gcontained_free := PySem.W.mg_of X G acontained_free
  have bcontained_free : Binds K dcontained_free ["expression"] [] := Fcontained_free.binds (ps := ["expression"]) fun _ _ _ _ _ _ us hl => match us, hl with | [_], _ => rfl
  obtain ⟨fcontained_of, dcontained_of, acontained_of, Fcontained_of⟩ := X_contained_of
  have gcontained_of := PySem.W.mg_of X G acontained_of
  have bcontained_of : Binds K dcontained_of ["expression", "wanted"] [] := Fcontained_of.binds (ps := ["expression", "wanted"]) fun _ _ _ _ _ _ us hl => match us, hl with | [_, _], _ => rfl
  obtain ⟨fwith_contained_of, dwith_contained_of, awith_contained_of, Fwith_contained_of⟩ := X_with_contained_of
  have gwith_contained_of := PySem.W.mg_of X G awith_contained_of
  have bwith_contained_of : Binds K dwith_contained_of ["expression", "wanted", "parts"] [] := Fwith_contained_of.binds (ps := ["expression", "wanted", "parts"]) fun _ _ _ _ _ _ us hl => match us, hl with | [_, _, _], _ => rfl
  obtain ⟨ffolded, dfolded, afolded, Ffolded⟩ := X_folded
  have gfolded := PySem.W.mg_of X G afolded
  have bfolded : Binds K dfolded ["expression", "wanted", "made"] [] := Ffolded.binds (ps := ["expression", "wanted", "made"]) fun _ _ _ _ _ _ us hl => match us, hl with | [_, _, _], _ => rfl
  obtain ⟨fone_deeper, done_deeper, aone_deeper, Fone_deeper⟩ := X_one_deeper
  have gone_deeper := PySem.W.mg_of X G aone_deeper
  have bone_deeper : Binds K done_deeper ["expressions"] [] := Fone_deeper.binds (ps := ["expressions"]) fun _ _ _ _ _ _ us hl => match us, hl with | [_], _ => rfl
  obtain ⟨fall_parts, dall_parts, aall_parts, Fall_parts⟩ := X_all_parts
  have gall_parts := PySem.W.mg_of X G aall_parts
  have ball_parts : Binds K dall_parts ["expression"] [] := Fall_parts.binds (ps := ["expression"]) fun _ _ _ _ _ _ us hl => match us, hl with | [_], _ => rfl
  obtain ⟨frows_of, drows_of, arows_of, Frows_of⟩ := X_rows_of
  have grows_of := PySem.W.mg_of X G arows_of
  have brows_of : Binds K drows_of ["table"] [] := Frows_of.binds (ps := ["table"]) fun _ _ _ _ _ _ us hl => match us, hl with | [_], _ => rfl
  obtain ⟨fhas_free_key, dhas_free_key, ahas_free_key, Fhas_free_key⟩ := X_has_free_key
  have ghas_free_key := PySem.W.mg_of X G ahas_free_key
  have bhas_free_key : Binds K dhas_free_key ["expression"] [] := Fhas_free_key.binds (ps := ["expression"]) fun _ _ _ _ _ _ us hl => match us, hl with | [_], _ => rfl
  obtain ⟨fis_closed, dis_closed, ais_closed, Fis_closed⟩ := X_is_closed
  have gis_closed := PySem.W.mg_of X G ais_closed
  have bis_closed : Binds K dis_closed ["expression"] [] := Fis_closed.binds (ps := ["expression"]) fun _ _ _ _ _ _ us hl => match us, hl with | [_], _ => rfl
  obtain ⟨fvariables_of, dvariables_of, avariables_of, Fvariables_of⟩ := X_variables_of
  have gvariables_of := PySem.W.mg_of X G avariables_of
  have bvariables_of : Binds K dvariables_of ["expression"] [] := Fvariables_of.binds (ps := ["expression"]) fun _ _ _ _ _ _ us hl => match us, hl with | [_], _ => rfl
  obtain ⟨fkeyed, dkeyed, akeyed, Fkeyed⟩ := X_keyed
  have gkeyed := PySem.W.mg_of X G akeyed
  have bkeyed : Binds K dkeyed ["expression", "other"] [] := Fkeyed.fun.binds (ps := ["expression", "other"]) fun _ _ _ _ _ _ us hl => match us, hl with | [_, _], _ => rfl
  obtain ⟨fwith_variables, dwith_variables, awith_variables, Fwith_variables⟩ := X_with_variables
  have gwith_variables := PySem.W.mg_of X G awith_variables
  have bwith_variables : Binds K dwith_variables ["expression", "others"] [] := Fwith_variables.fun.binds (ps := ["expression", "others"]) fun _ _ _ _ _ _ us hl => match us, hl with | [_, _], _ => rfl
  obtain ⟨fstatement_at, dstatement_at, astatement_at, Fstatement_at⟩ := X_statement_at
  have gstatement_at := PySem.W.mg_of X G astatement_at
  have bstatement_at : Binds K dstatement_at ["log", "position"] [] := Fstatement_at.binds (ps := ["log", "position"]) fun _ _ _ _ _ _ us hl => match us, hl with | [_, _], _ => rfl
  obtain ⟨fstart_of, dstart_of, astart_of, Fstart_of⟩ := X_start_of
  have gstart_of := PySem.W.mg_of X G astart_of
  have bstart_of : Binds K dstart_of ["marks", "position"] [] := Fstart_of.binds (ps := ["marks", "position"]) fun _ _ _ _ _ _ us hl => match us, hl with | [_, _], _ => rfl
  obtain ⟨flets_at, dlets_at, alets_at, Flets_at⟩ := X_lets_at
  have glets_at := PySem.W.mg_of X G alets_at
  have blets_at : Binds K dlets_at ["log", "position"] [] := Flets_at.binds (ps := ["log", "position"]) fun _ _ _ _ _ _ us hl => match us, hl with | [_, _], _ => rfl
  obtain ⟨fslot_expression, dslot_expression, aslot_expression, Fslot_expression⟩ := X_slot_expression
  have gslot_expression := PySem.W.mg_of X G aslot_expression
  have bslot_expression : Binds K dslot_expression ["statement", "word"] [] := Fslot_expression.binds (ps := ["statement", "word"]) fun _ _ _ _ _ _ us hl => match us, hl with | [_, _], _ => rfl
  obtain ⟨fexpression_of, dexpression_of, aexpression_of, Fexpression_of⟩ := X_expression_of
  have gexpression_of := PySem.W.mg_of X G aexpression_of
  have bexpression_of : Binds K dexpression_of ["log", "slot"] [] := Fexpression_of.binds (ps := ["log", "slot"]) fun _ _ _ _ _ _ us hl => match us, hl with | [_, _], _ => rfl
  obtain ⟨fwith_lets, dwith_lets, awith_lets, Fwith_lets⟩ := X_with_lets
  have gwith_lets := PySem.W.mg_of X G awith_lets
  have bwith_lets : Binds K dwith_lets ["log", "expression", "position"] [] := Fwith_lets.binds (ps := ["log", "expression", "position"]) fun _ _ _ _ _ _ us hl => match us, hl with | [_, _, _], _ => rfl
  obtain ⟨f_law_deck, d_law_deck, a_law_deck, F_law_deck⟩ := X_law_deck
  have g_law_deck := PySem.W.mg_of X G a_law_deck
  have b_law_deck : Binds K d_law_deck ["_law_script"] [] := F_law_deck.binds (ps := ["_law_script"]) fun _ _ _ _ _ _ us hl => match us, hl with | [_], _ => rfl
  obtain ⟨f_law_draw, d_law_draw, a_law_draw, F_law_draw⟩ := X_law_draw
  have g_law_draw := PySem.W.mg_of X G a_law_draw
  have b_law_draw : Binds K d_law_draw ["_law_deck_here", "_law_most"] [] := F_law_draw.binds (ps := ["_law_deck_here", "_law_most"]) fun _ _ _ _ _ _ us hl => match us, hl with | [_, _], _ => rfl
  obtain ⟨f_law_pick, d_law_pick, a_law_pick, F_law_pick⟩ := X_law_pick
  have g_law_pick := PySem.W.mg_of X G a_law_pick
  have b_law_pick : Binds K d_law_pick ["_law_deck_here", "_law_some"] [] := F_law_pick.binds (ps := ["_law_deck_here", "_law_some"]) fun _ _ _ _ _ _ us hl => match us, hl with | [_, _], _ => rfl
  obtain ⟨f_law_names, d_law_names, a_law_names, F_law_names⟩ := X_law_names
  have g_law_names := PySem.W.mg_of X G a_law_names
  have b_law_names : Binds K d_law_names ["_law_deck_here", "_law_many"] [] := F_law_names.binds (ps := ["_law_deck_here", "_law_many"]) fun _ _ _ _ _ _ us hl => match us, hl with | [_, _], _ => rfl
  obtain ⟨f_law_world, d_law_world, a_law_world, F_law_world⟩ := X_law_world
  have g_law_world := PySem.W.mg_of X G a_law_world
  have b_law_world : Binds K d_law_world ["_law_deck_here"] [] := F_law_world.binds (ps := ["_law_deck_here"]) fun _ _ _ _ _ _ us hl => match us, hl with | [_], _ => rfl
  obtain ⟨f_law_expression, d_law_expression, a_law_expression, F_law_expression⟩ := X_law_expression
  have g_law_expression := PySem.W.mg_of X G a_law_expression
  have b_law_expression : Binds K d_law_expression ["_law_deck_here", "_law_world_here", "_law_deep", "_law_scope", "_law_loose"] [] := F_law_expression.binds (ps := ["_law_deck_here", "_law_world_here", "_law_deep", "_law_scope", "_law_loose"]) fun _ _ _ _ _ _ us hl => match us, hl with | [_, _, _, _, _], _ => rfl
  obtain ⟨f_law_statement, d_law_statement, a_law_statement, F_law_statement⟩ := X_law_statement
  have g_law_statement := PySem.W.mg_of X G a_law_statement
  have b_law_statement : Binds K d_law_statement ["_law_deck_here", "_law_world_here", "_law_scope", "_law_deep"] [] := F_law_statement.binds (ps := ["_law_deck_here", "_law_world_here", "_law_scope", "_law_deep"]) fun _ _ _ _ _ _ us hl => match us, hl with | [_, _, _, _], _ => rfl
  obtain ⟨f_law_transaction, d_law_transaction, a_law_transaction, F_law_transaction⟩ := X_law_transaction
  have g_law_transaction := PySem.W.mg_of X G a_law_transaction
  have b_law_transaction : Binds K d_law_transaction ["_law_deck_here", "_law_world_here", "_law_most", "_law_deep"] [] := F_law_transaction.binds (ps := ["_law_deck_here", "_law_world_here", "_law_most", "_law_deep"]) fun _ _ _ _ _ _ us hl => match us, hl with | [_, _, _, _], _ => rfl
  obtain ⟨f_law_spread, d_law_spread, a_law_spread, F_law_spread⟩ := X_law_spread
  have g_law_spread := PySem.W.mg_of X G a_law_spread
  have b_law_spread : Binds K d_law_spread ["_law_deck_here", "_law_some"] [] := F_law_spread.binds (ps := ["_law_deck_here", "_law_some"]) fun _ _ _ _ _ _ us hl => match us, hl with | [_, _], _ => rfl
  obtain ⟨f_law_put_for, d_law_put_for, a_law_put_for, F_law_put_for⟩ := X_law_put_for
  have g_law_put_for := PySem.W.mg_of X G a_law_put_for
  have b_law_put_for : Binds K d_law_put_for ["_law_thing", "_law_lets", "_law_key"] [] := F_law_put_for.binds (ps := ["_law_thing", "_law_lets", "_law_key"]) fun _ _ _ _ _ _ us hl => match us, hl with | [_, _, _], _ => rfl
  obtain ⟨f_law_due, d_law_due, a_law_due, F_law_due⟩ := X_law_due
  have g_law_due := PySem.W.mg_of X G a_law_due
  have b_law_due : Binds K d_law_due ["_law_statement_here", "_law_lets", "_law_keys"] [] := F_law_due.binds (ps := ["_law_statement_here", "_law_lets", "_law_keys"]) fun _ _ _ _ _ _ us hl => match us, hl with | [_, _, _], _ => rfl
  obtain ⟨f_law_right, d_law_right, a_law_right, F_law_right⟩ := X_law_right
  have g_law_right := PySem.W.mg_of X G a_law_right
  have b_law_right : Binds K d_law_right ["_law_made", "_law_keys"] [] := F_law_right.binds (ps := ["_law_made", "_law_keys"]) fun _ _ _ _ _ _ us hl => match us, hl with | [_, _], _ => rfl
  obtain ⟨f_law_bound_keys, d_law_bound_keys, a_law_bound_keys, F_law_bound_keys⟩ := X_law_bound_keys
  have g_law_bound_keys := PySem.W.mg_of X G a_law_bound_keys
  have b_law_bound_keys : Binds K d_law_bound_keys ["_law_deck_here", "_law_world_here"] [] := F_law_bound_keys.binds (ps := ["_law_deck_here", "_law_world_here"]) fun _ _ _ _ _ _ us hl => match us, hl with | [_, _], _ => rfl
  obtain ⟨f_law0, d_law0, a_law0, F_law0⟩ := X_law
  have e := hfa.symm.trans (PySem.W.mg_of X G a_law0)
  cases e
  have mlist := PySem.W.mg_none_of X G z_list
  have msum := PySem.W.mg_none_of X G z_sum
  have mlen := PySem.W.mg_none_of X G z_len
  have mrange := PySem.W.mg_none_of X G z_range
  have mint := PySem.W.mg_none_of X G z_int
  have mrepr := PySem.W.mg_none_of X G z_repr
  have mtuple := PySem.W.mg_none_of X G z_tuple
  have mmin := PySem.W.mg_none_of X G z_min
  have mmax := PySem.W.mg_none_of X G z_max
  have msorted := PySem.W.mg_none_of X G z_sorted
  have mzip := PySem.W.mg_none_of X G z_zip
  have mFIELDS := PySem.W.mg_of X G z_FIELDS
  have mALL := PySem.W.mg_of X G z_ALL
  obtain ⟨oc, od, kV, doc, pm, an, cdv, ct, osl, hfd, _, _⟩ := F_law0.ex
  refine ⟨d_law0, fun s v => ?_, fun base _ _ TB => ?_⟩
  · subst hfd
    exact .of_eq rfl
  · have TBK := TB (cK, PK) List.mem_cons_self
    have TBV := TB (cV, PV) (List.mem_cons_of_mem _ List.mem_cons_self)
    have hmK : ((PK, nmK) : NdefX.NTab) ∈ TTs PK PV := List.mem_cons_self
    have hmV : ((PV, nmV) : NdefX.NTab) ∈ TTs PK PV := List.mem_cons_of_mem _ List.mem_cons_self
    have huK : ∀ p ∈ TTs PK PV, p.1 = PK → p.2 = nmK := fun p hp e => by
      rcases List.mem_cons.mp hp with rfl | hp
      · rfl
      · rw [List.mem_singleton.mp hp] at e
        exact absurd e.symm hne
    have huV : ∀ p ∈ TTs PK PV, p.1 = PV → p.2 = nmV := fun p hp e => by
      rcases List.mem_cons.mp hp with rfl | hp
      · exact absurd e hne
      · rw [List.mem_singleton.mp hp]
    have Gdraw := ok_draw (P := P) (w := w) (mg := mg) (base := base) (k := 0) F_law_draw
    have Gpick := ok_pick (k := 1) F_law_pick Gdraw g_law_draw F_law_draw.kp b_law_draw mlen
    have Gnames := ok_names (k := 2) F_law_names (Gdraw.mono (by decide)) g_law_draw F_law_draw.kp b_law_draw Gpick g_law_pick F_law_pick.kp b_law_pick mrange mlen
    have Gworld := ok_world (k := 3) F_law_world (Gdraw.mono (by decide)) g_law_draw F_law_draw.kp b_law_draw Gnames g_law_names F_law_names.kp b_law_names
    have Gdeck := ok_deck (P := P) (w := w) (mg := mg) (base := base) (k := 0) F_law_deck mlist msum mlen
    have Gex := ok_exprs (k := 2) F_law_expression (Gdraw.mono (by decide)) g_law_draw F_law_draw.kp b_law_draw Gpick g_law_pick F_law_pick.kp b_law_pick g_law_expression F_law_expression.kp b_law_expression mint mmax 3
    have Gst := ok_stmt (k := 6) F_law_statement (Gdraw.mono (by decide)) g_law_draw F_law_draw.kp b_law_draw (Gpick.mono (by decide)) g_law_pick F_law_pick.kp b_law_pick Gex g_law_expression F_law_expression.kp b_law_expression
    have Gtr := ok_tran (k := 7) F_law_transaction (Gdraw.mono (by decide)) g_law_draw F_law_draw.kp b_law_draw Gst g_law_statement F_law_statement.kp b_law_statement mrange mint mtuple
    have Gspr := ok_spread (k := 2) F_law_spread (Gdraw.mono (by decide)) g_law_draw F_law_draw.kp b_law_draw Gpick g_law_pick F_law_pick.kp b_law_pick mlen mtuple
    have Gof := ok_contained_of (P := P) (w := w) (mg := mg) (base := base) (k := 0) Fcontained_of mFIELDS T_FIELDS mzip
    have Gcon := ok_contained (k := 1) Fcontained Gof gcontained_of Fcontained_of.kp bcontained_of mALL T_ALL
    have Gfree := ok_contained_free (k := 1) Fcontained_free Gof gcontained_of Fcontained_of.kp bcontained_of
    have Gone := ok_one_deeper (k := 2) Fone_deeper Gcon gcontained Fcontained.kp bcontained
    have Gall := ok_all_parts (k := 3) Fall_parts Gone gone_deeper Fone_deeper.kp bone_deeper
    have Gvars := ok_variables_of (k := 4) Fvariables_of Gall gall_parts Fall_parts.kp ball_parts msorted mtuple
    have Ghas := ok_has_free_key (k := 2) Fhas_free_key Gfree gcontained_free Fcontained_free.kp bcontained_free
    have Gclosed := ok_is_closed (k := 5) Fis_closed Gvars gvariables_of Fvariables_of.kp bvariables_of (Ghas.mono (by decide)) ghas_free_key Fhas_free_key.kp bhas_free_key
    have Gwith := ok_with (P := P) (w := w) (mg := mg) (base := base) (k := 0) Fwith_contained_of mFIELDS T_FIELDS mzip mtuple mlen
    have GfK := fun (o : PyData) (ho : flatD o = true) => ok_folded (j := 2) (k := 2) Ffolded (mkOkK (K := K) ho) (nok_mK (k := 1) ho Gwith gwith_contained_of Fwith_contained_of.kp bwith_contained_of trivial) (Nat.le_refl _) (Gof.mono (by decide)) gcontained_of Fcontained_of.kp bcontained_of mlen
    have GfV := fun (lz : Str → Option Int) => ok_folded (j := 2) (k := 2) Ffolded (mkOkV (K := K) (lz := lz)) (nok_mV (k := 1) Gwith gwith_contained_of Fwith_contained_of.kp bwith_contained_of mALL T_ALL) (Nat.le_refl _) (Gof.mono (by decide)) gcontained_of Fcontained_of.kp bcontained_of mlen
    have Gkeyed := ok_keyed (k := 3) Fkeyed TBK hmK huK GfK gfolded Ffolded.kp bfolded
    have Gwv := ok_with_variables (k := 3) Fwith_variables TBV hmV huV GfV gfolded Ffolded.kp bfolded mALL T_ALL
    have Gsat := ok_statement_at (P := P) (w := w) (mg := mg) (base := base) (k := 0) Fstatement_at
    have Gsof := ok_start_of (P := P) (w := w) (mg := mg) (base := base) (k := 0) Fstart_of mmax
    have Glat := ok_lets_at (k := 1) Flets_at Gsof gstart_of Fstart_of.kp bstart_of
    have Gwl := ok_with_lets (k := 4) Fwith_lets (Glat.mono (by decide)) glets_at Flets_at.kp blets_at Gwv gwith_variables Fwith_variables.kp bwith_variables
    have Grows := ok_rows_of (P := P) (w := w) (mg := mg) (base := base) (k := 0) Frows_of
    have Gse := ok_slot_expression (k := 1) Fslot_expression Grows grows_of Frows_of.kp brows_of
    have Geo := ok_expression_of (k := 5) Fexpression_of Gwl gwith_lets Fwith_lets.kp bwith_lets (Gse.mono (by decide)) gslot_expression Fslot_expression.kp bslot_expression (Gsat.mono (by decide)) gstatement_at Fstatement_at.kp bstatement_at (Gkeyed.mono (by decide)) gkeyed Fkeyed.kp bkeyed mlen
    have Gpf := ok_pf (P := P) (w := w) (mg := mg) (base := base) (k := 0) F_law_put_for g_law_put_for F_law_put_for.kp b_law_put_for mtuple 6
    have Gdue := ok_due (k := 6) F_law_due Gpf g_law_put_for F_law_put_for.kp b_law_put_for
    have Gri := ok_right (k := 7) F_law_right Gdue g_law_due F_law_due.kp b_law_due (Geo.mono (by decide)) gexpression_of Fexpression_of.kp bexpression_of (Gclosed.mono (by decide)) gis_closed Fis_closed.kp bis_closed mzip mrepr
    have Gbk := ok_bk (k := 2) F_law_bound_keys (Gdraw.mono (by decide)) g_law_draw F_law_draw.kp b_law_draw Gpick g_law_pick F_law_pick.kp b_law_pick
    exact ok_law (k := 8) F_law0 (Gdeck.mono (by decide)) g_law_deck F_law_deck.kp b_law_deck (Gdraw.mono (by decide)) g_law_draw F_law_draw.kp b_law_draw (Gpick.mono (by decide)) g_law_pick F_law_pick.kp b_law_pick (Gworld.mono (by decide)) g_law_world F_law_world.kp b_law_world Gtr g_law_transaction F_law_transaction.kp b_law_transaction (Gbk.mono (by decide)) g_law_bound_keys F_law_bound_keys.kp b_law_bound_keys Gri g_law_right F_law_right.kp b_law_right (Gspr.mono (by decide)) g_law_spread F_law_spread.kp b_law_spread mrange mmax mmin mlen
end L19
open PySem PySem.W PyProof.Rows
set_option maxHeartbeats 0 in
theorem PySem.Challenge.cw_lookdone_k19_expressions_of_slots_holds : PySem.Challenge.rw_lookdone_k19_expressions_of_slots.Holds := by
  w_on; o_law; k_head; (case hw => w_witness2)
  k_fill
  refine GR.walk_gt (l := PySem.Challenge.rw_lookdone_k19_expressions_of_slots) (n := 63) (k := 9) (x := "_law_script") (cs := [(109, 105), (116, 112)]) (sp := fun K => L19.sp_law K (L19.TTs 105 112)) rfl (by decide) rfl ⟨rfl, by decide, by decide⟩ (fun w h Y => PySem.W.km_in_of Y) (fun w h Y => L19.tabs2 (PySem.W.km_tabs_of Y 105 (by decide)) (PySem.W.km_tabs_of Y 112 (by decide))) ?nT ?hC ?F (fun _ H a ns hl ht hS => ⟨a, ns, rfl, hS, L19.tts_mk ht, fun _ => rfl⟩)
  case nT => exact fun w => L19.all2 (by kernel_rfl) (by kernel_rfl)
  case hC => exact fun w => L19.all2 (by kernel_rfl) (by kernel_rfl)
  case F =>
    intro w mg fa h KX G hmg
    refine' L19.all_mk (cK := 109) (PK := 105) (cV := 116) (PV := 112) (by decide) KX G hmg (L19.has_mk ?a_contained ?l_contained ?c_contained ?k_contained) (L19.has_mk ?a_contained_free ?l_contained_free ?c_contained_free ?k_contained_free) (L19.has_mk ?a_contained_of ?l_contained_of ?c_contained_of ?k_contained_of) (L19.has_mk ?a_with_contained_of ?l_with_contained_of ?c_with_contained_of ?k_with_contained_of) (L19.has_mk ?a_folded ?l_folded ?c_folded ?k_folded) (L19.has_mk ?a_one_deeper ?l_one_deeper ?c_one_deeper ?k_one_deeper) (L19.has_mk ?a_all_parts ?l_all_parts ?c_all_parts ?k_all_parts) (L19.has_mk ?a_rows_of ?l_rows_of ?c_rows_of ?k_rows_of) (L19.has_mk ?a_has_free_key ?l_has_free_key ?c_has_free_key ?k_has_free_key) (L19.has_mk ?a_is_closed ?l_is_closed ?c_is_closed ?k_is_closed) (L19.has_mk ?a_variables_of ?l_variables_of ?c_variables_of ?k_variables_of) (L19.has_mkC ?a_keyed ?l_keyed ?c_keyed ?k_keyed) (L19.has_mkC ?a_with_variables ?l_with_variables ?c_with_variables ?k_with_variables) (L19.has_mk ?a_statement_at ?l_statement_at ?c_statement_at ?k_statement_at) (L19.has_mk ?a_start_of ?l_start_of ?c_start_of ?k_start_of) (L19.has_mk ?a_lets_at ?l_lets_at ?c_lets_at ?k_lets_at) (L19.has_mk ?a_slot_expression ?l_slot_expression ?c_slot_expression ?k_slot_expression) (L19.has_mk ?a_expression_of ?l_expression_of ?c_expression_of ?k_expression_of) (L19.has_mk ?a_with_lets ?l_with_lets ?c_with_lets ?k_with_lets) (L19.has_mk ?a_law_deck ?l_law_deck ?c_law_deck ?k_law_deck) (L19.has_mk ?a_law_draw ?l_law_draw ?c_law_draw ?k_law_draw) (L19.has_mk ?a_law_pick ?l_law_pick ?c_law_pick ?k_law_pick) (L19.has_mk ?a_law_names ?l_law_names ?c_law_names ?k_law_names) (L19.has_mk ?a_law_world ?l_law_world ?c_law_world ?k_law_world) (L19.has_mk ?a_law_expression ?l_law_expression ?c_law_expression ?k_law_expression) (L19.has_mk ?a_law_statement ?l_law_statement ?c_law_statement ?k_law_statement) (L19.has_mk ?a_law_transaction ?l_law_transaction ?c_law_transaction ?k_law_transaction) (L19.has_mk ?a_law_spread ?l_law_spread ?c_law_spread ?k_law_spread) (L19.has_mk ?a_law_put_for ?l_law_put_for ?c_law_put_for ?k_law_put_for) (L19.has_mk ?a_law_due ?l_law_due ?c_law_due ?k_law_due) (L19.has_mk ?a_law_right ?l_law_right ?c_law_right ?k_law_right) (L19.has_mk ?a_law_bound_keys ?l_law_bound_keys ?c_law_bound_keys ?k_law_bound_keys) (L19.has_mk ?a_law ?l_law ?c_law ?k_law) ?z_list ?z_sum ?z_len ?z_range ?z_int ?z_repr ?z_tuple ?z_min ?z_max ?z_sorted ?z_zip ?z_FIELDS (L19.flds_mk ?l_F ?kl_F ?q_0 (L19.ktx_mk ?l_0 ?v_0 (by decide)) ?q_1 (L19.ktx_mk ?l_1 ?v_1 (by decide)) ?q_2 (L19.ktx_mk ?l_2 ?v_2 (by decide)) ?q_3 (L19.ktx_mk ?l_3 ?v_3 (by decide)) ?q_4 (L19.ktx_mk ?l_4 ?v_4 (by decide)) ?q_5 (L19.ktx_mk ?l_5 ?v_5 (by decide)) ?q_6 (L19.ktx_mk ?l_6 ?v_6 (by decide)) ?q_7 (L19.ktx_mk ?l_7 ?v_7 (by decide)) ?q_8 (L19.ktx_mk ?l_8 ?v_8 (by decide)) ?q_9 (L19.ktx_mk ?l_9 ?v_9 (by decide)) ?q_10 (L19.ktx_mk ?l_10 ?v_10 (by decide)) ?q_11 (L19.ktx_mk ?l_11 ?v_11 (by decide)) ?q_12 (L19.ktx_mk ?l_12 ?v_12 (by decide)) ?q_13 (L19.ktx_mk ?l_13 ?v_13 (by decide)) ?q_14 (L19.ktx_mk ?l_14 ?v_14 (by decide)) ?q_15 (L19.ktx_mk ?l_15 ?v_15 (by decide))) ?z_ALL (L19.ktx_mk (fs := ["free", "bound"]) ?l_A ?v_A (by decide))
    (case a_contained => k_is)
    (case l_contained => k_is)
    (case c_contained => k_is)
    (case k_contained => k_is)
    (case a_contained_free => k_is)
    (case l_contained_free => k_is)
    (case c_contained_free => k_is)
    (case k_contained_free => k_is)
    (case a_contained_of => k_is)
    (case l_contained_of => k_is)
    (case c_contained_of => k_is)
    (case k_contained_of => k_is)
    (case a_with_contained_of => k_is)
    (case l_with_contained_of => k_is)
    (case c_with_contained_of => k_is)
    (case k_with_contained_of => k_is)
    (case a_folded => k_is)
    (case l_folded => k_is)
    (case c_folded => k_is)
    (case k_folded => k_is)
    (case a_one_deeper => k_is)
    (case l_one_deeper => k_is)
    (case c_one_deeper => k_is)
    (case k_one_deeper => k_is)
    (case a_all_parts => k_is)
    (case l_all_parts => k_is)
    (case c_all_parts => k_is)
    (case k_all_parts => k_is)
    (case a_rows_of => k_is)
    (case l_rows_of => k_is)
    (case c_rows_of => k_is)
    (case k_rows_of => k_is)
    (case a_has_free_key => k_is)
    (case l_has_free_key => k_is)
    (case c_has_free_key => k_is)
    (case k_has_free_key => k_is)
    (case a_is_closed => k_is)
    (case l_is_closed => k_is)
    (case c_is_closed => k_is)
    (case k_is_closed => k_is)
    (case a_variables_of => k_is)
    (case l_variables_of => k_is)
    (case c_variables_of => k_is)
    (case k_variables_of => k_is)
    (case a_keyed => k_is)
    (case l_keyed => k_is)
    (case c_keyed => k_is)
    (case k_keyed => k_is)
    (case a_with_variables => k_is)
    (case l_with_variables => k_is)
    (case c_with_variables => k_is)
    (case k_with_variables => k_is)
    (case a_statement_at => k_is)
    (case l_statement_at => k_is)
    (case c_statement_at => k_is)
    (case k_statement_at => k_is)
    (case a_start_of => k_is)
    (case l_start_of => k_is)
    (case c_start_of => k_is)
    (case k_start_of => k_is)
    (case a_lets_at => k_is)
    (case l_lets_at => k_is)
    (case c_lets_at => k_is)
    (case k_lets_at => k_is)
    (case a_slot_expression => k_is)
    (case l_slot_expression => k_is)
    (case c_slot_expression => k_is)
    (case k_slot_expression => k_is)
    (case a_expression_of => k_is)
    (case l_expression_of => k_is)
    (case c_expression_of => k_is)
    (case k_expression_of => k_is)
    (case a_with_lets => k_is)
    (case l_with_lets => k_is)
    (case c_with_lets => k_is)
    (case k_with_lets => k_is)
    (case a_law_deck => k_is)
    (case l_law_deck => k_is)
    (case c_law_deck => k_is)
    (case k_law_deck => k_is)
    (case a_law_draw => k_is)
    (case l_law_draw => k_is)
    (case c_law_draw => k_is)
    (case k_law_draw => k_is)
    (case a_law_pick => k_is)
    (case l_law_pick => k_is)
    (case c_law_pick => k_is)
    (case k_law_pick => k_is)
    (case a_law_names => k_is)
    (case l_law_names => k_is)
    (case c_law_names => k_is)
    (case k_law_names => k_is)
    (case a_law_world => k_is)
    (case l_law_world => k_is)
    (case c_law_world => k_is)
    (case k_law_world => k_is)
    (case a_law_expression => k_is)
    (case l_law_expression => k_is)
    (case c_law_expression => k_is)
    (case k_law_expression => k_is)
    (case a_law_statement => k_is)
    (case l_law_statement => k_is)
    (case c_law_statement => k_is)
    (case k_law_statement => k_is)
    (case a_law_transaction => k_is)
    (case l_law_transaction => k_is)
    (case c_law_transaction => k_is)
    (case k_law_transaction => k_is)
    (case a_law_spread => k_is)
    (case l_law_spread => k_is)
    (case c_law_spread => k_is)
    (case k_law_spread => k_is)
    (case a_law_put_for => k_is)
    (case l_law_put_for => k_is)
    (case c_law_put_for => k_is)
    (case k_law_put_for => k_is)
    (case a_law_due => k_is)
    (case l_law_due => k_is)
    (case c_law_due => k_is)
    (case k_law_due => k_is)
    (case a_law_right => k_is)
    (case l_law_right => k_is)
    (case c_law_right => k_is)
    (case k_law_right => k_is)
    (case a_law_bound_keys => k_is)
    (case l_law_bound_keys => k_is)
    (case c_law_bound_keys => k_is)
    (case k_law_bound_keys => k_is)
    (case a_law => k_is)
    (case l_law => k_is)
    (case c_law => k_is)
    (case k_law => k_is)
    (case z_list => k_is)
    (case z_sum => k_is)
    (case z_len => k_is)
    (case z_range => k_is)
    (case z_int => k_is)
    (case z_repr => k_is)
    (case z_tuple => k_is)
    (case z_min => k_is)
    (case z_max => k_is)
    (case z_sorted => k_is)
    (case z_zip => k_is)
    (case z_FIELDS => k_is)
    (case l_F => k_is)
    (case kl_F => k_keys)
    (case q_0 => k_is)
    (case l_0 => k_is)
    (case v_0 => repeat (first | exact .nil | refine .cons ⟨_, rfl⟩ ?_))
    (case q_1 => k_is)
    (case l_1 => k_is)
    (case v_1 => repeat (first | exact .nil | refine .cons ⟨_, rfl⟩ ?_))
    (case q_2 => k_is)
    (case l_2 => k_is)
    (case v_2 => repeat (first | exact .nil | refine .cons ⟨_, rfl⟩ ?_))
    (case q_3 => k_is)
    (case l_3 => k_is)
    (case v_3 => repeat (first | exact .nil | refine .cons ⟨_, rfl⟩ ?_))
    (case q_4 => k_is)
    (case l_4 => k_is)
    (case v_4 => repeat (first | exact .nil | refine .cons ⟨_, rfl⟩ ?_))
    (case q_5 => k_is)
    (case l_5 => k_is)
    (case v_5 => repeat (first | exact .nil | refine .cons ⟨_, rfl⟩ ?_))
    (case q_6 => k_is)
    (case l_6 => k_is)
    (case v_6 => repeat (first | exact .nil | refine .cons ⟨_, rfl⟩ ?_))
    (case q_7 => k_is)
    (case l_7 => k_is)
    (case v_7 => repeat (first | exact .nil | refine .cons ⟨_, rfl⟩ ?_))
    (case q_8 => k_is)
    (case l_8 => k_is)
    (case v_8 => repeat (first | exact .nil | refine .cons ⟨_, rfl⟩ ?_))
    (case q_9 => k_is)
    (case l_9 => k_is)
    (case v_9 => repeat (first | exact .nil | refine .cons ⟨_, rfl⟩ ?_))
    (case q_10 => k_is)
    (case l_10 => k_is)
    (case v_10 => repeat (first | exact .nil | refine .cons ⟨_, rfl⟩ ?_))
    (case q_11 => k_is)
    (case l_11 => k_is)
    (case v_11 => repeat (first | exact .nil | refine .cons ⟨_, rfl⟩ ?_))
    (case q_12 => k_is)
    (case l_12 => k_is)
    (case v_12 => repeat (first | exact .nil | refine .cons ⟨_, rfl⟩ ?_))
    (case q_13 => k_is)
    (case l_13 => k_is)
    (case v_13 => repeat (first | exact .nil | refine .cons ⟨_, rfl⟩ ?_))
    (case q_14 => k_is)
    (case l_14 => k_is)
    (case v_14 => repeat (first | exact .nil | refine .cons ⟨_, rfl⟩ ?_))
    (case q_15 => k_is)
    (case l_15 => k_is)
    (case v_15 => repeat (first | exact .nil | refine .cons ⟨_, rfl⟩ ?_))
    (case z_ALL => k_is)
    (case l_A => k_is)
    (case v_A => repeat (first | exact .nil | refine .cons ⟨_, rfl⟩ ?_))
