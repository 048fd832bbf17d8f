import PyProof.Rows.All
import Wide.All
import OpenK.AllK
import Wide.FinOn
import HandS.ForMost
import PyProof.ReprRoads
import HandS.Wide
import HandS.Style
import HandS.Evl
import HandS.Conv
import HandS.Replace
import HandS.Small
import PyProof.AutoSeq1
import HandS.Zip
import HandS.More
import HandS.Walk
import HandS.Set
import HandS.SetBool
import HandS.SetKeys
import PyProof.Rows.SortStr
import HandS.Strs
import HandS.TupSets
import HandS.DictTup
import HandS.SetFor
import HandS.Keys
import KE.KDictSum
import KE.KSortTup
import PyProof.Rows.SortKeyStr
import HandS.TupAny
import PyProof.EqAt
import PyProof.NeKinds
import PySem.Challenge.RW_lookdone_k05_parts_depths_variables_colu
set_option Elab.async false
set_option linter.all false
set_option maxRecDepth 100000
set_option maxHeartbeats 4000000
namespace GR
open PySem PySem.Spec PyProof.Rows L2

/-! ### data that stands in the abstract heap -/
section
variable {X : Cx} {pins : List (Addr × Obj)} {σ : L2.St} {H : Hp} {s : Shared}
mutual
theorem nodict {K : PySem.W.Frag} : ∀ {v : V} {d : PyData}, Dp K H v d → d.hasDict = false
  | _, _, .non => by simp only [PyData.hasDict]
  | _, _, .bl b => by simp only [PyData.hasDict]
  | _, _, .int i => by simp only [PyData.hasDict]
  | _, _, .str x => by simp only [PyData.hasDict]
  | _, _, .lst _ q => by simp only [PyData.hasDict, nodicts q]
  | _, _, .tup _ q => by simp only [PyData.hasDict, nodicts q]
theorem nodicts {K : PySem.W.Frag} : ∀ {vs : List V} {ds : List PyData}, DpAll K H vs ds → PyData.hasDictAll ds = false
  | _, _, .nil => by simp only [PyData.hasDictAll]
  | _, _, .cons h q => by simp only [PyData.hasDictAll, nodict h, nodicts q, Bool.or_self]
end

/-- repr of a list or a tuple of data -/
def rRepr (X : Cx) : List V → Hp → VK → Prop := fun xs H Q => ∃ (a : Addr) (d : PyData), xs = [.ref a] ∧ Dp X.K H (.ref a) d ∧ d.showable = true ∧ d.depth ≤ 60 ∧ d.shown.length ≤ sizeLine ∧ Q (.str d.shown) H
theorem call_reprD {k : Nat} (hg : X.A.guards = some []) (hr : Room k X.A) : CallR X (.builtin "repr") (rRepr X) := by
  intro pins s σ H xs us Q I r h
  obtain ⟨a, d, rfl, hd, hs, hdep, hz, q⟩ := h
  obtain ⟨u, rfl, rv⟩ := vals1 r
  obtain rfl : u = Value.ref a := rv
  obtain ⟨as, hR⟩ := Dp.reads I d _ _ hd rfl
  have hu := hr.units
  exact repr_of_reads' hR hs (PyData.noDict_hsm (nodict hd)) hg (by omega) (fun _ _ e => e) (fun h' u tk hk => ⟨.str d.shown, H, I.kept hk, ⟨_, rfl⟩, q⟩) hz
end

/-! ### defs that show things: a promise kept wherever nothing is being shown -/
structure FnG (P : Program) (w : World) (K : PySem.W.Frag) (mg : Str → Option Value) (base : Heap) (CX : CXT) (k : Nat) (f : Addr) (fd : FuncData) (ps : List Str) (sp : Sp) : Prop where
  size : ∀ vs H Q E, sp vs H Q E → vs.length = ps.length
  go : ∀ (A : Around) (outer : List Env) (s : Shared) (H : Hp) (args : Args) (us : List Value) (vs : List V) (Q : VK) (E : XK),
    A.guards = some [] → Room k A → Env0 P w K mg base A outer s H → BindsTo s fd args (ps.zip us) → Vals vs us → sp vs H Q E →
    codeAny (model P w) A (.call (.ref f) args) (CR CX outer P w H s Q E) s

section
variable {P : Program} {w : World} {K : PySem.W.Frag} {mg : Str → Option Value} {base : Heap}
theorem FnG.of {CX : CXT} {k : Nat} {f : Addr} {fd : FuncData} {ps : List Str} {sp : Sp} (F : FnOk P w K mg base CX k f fd ps sp) : FnG P w K mg base CX k f fd ps sp :=
  ⟨F.len, fun A outer s H args us vs Q E _ => F.run A outer s H args us vs Q E⟩

/-- a def by its body, where nothing is being shown -/
theorem ok_g {x qual : Str} {st : Stmt} {f : Addr} {fd : FuncData} {N ps : List Str} {k : Nat} {sp : Sp} (F : Fun K x qual st f fd) (S : FnScope N ps (defScope st)) (size : ∀ vs H Q E, sp vs H Q E → vs.length = ps.length)
    (body : ∀ (cdv : Value) (A : Around) (outer : List Env) (s : Shared) (H : Hp) (vs : List V) (Q : VK) (E : XK), A.guards = some [] → Room k (A.deeper (envOfC qual (defScope st) s.heap.objs.size f cdv)) → sp vs H Q E →
      ∃ t, PSs (cxOf CX0 P w K mg base N qual (defScope st) f cdv A outer s H E).nox (defBody st) t ∧ t { nx := fun _ H' => Q .non H', rt := Q } (start N vs) H) : FnG P w K mg base CX0 (k + 1) f fd ps sp := by
  obtain ⟨oc, od, kV, doc, pm, an, cdv, ct, osl, rfl, lk, hcd⟩ := F.ex
  constructor
  · exact size
  intro A outer s H args us vs Q E gA room e0 bnd rel hsp
  have inK : K.In s.heap := e0.mod.kin.keeps (fun b o q => (e0.bs b o q).1)
  have nolim := e0.mod.nolimit.keeps (fun b o q => (e0.bs b o q).1)
  obtain ⟨t, ht, hq⟩ := body cdv A outer s H vs Q E gA (room.deeper _) hsp
  refine codeAny_call_function room.depth (inK f _ lk) rfl S.co S.gen rfl (PySem.W.codeRec_of inK hcd) (bnd _ _ _ _ ?_)
  refine wpAny_newFunctionEnv_cells S.kind ?par (fun env he s1 inC => ?run)
  case par =>
    rintro ⟨n, v⟩ hy
    rcases S.par n (List.of_mem_zip hy).1 with q | q
    · exact Or.inl q
    · exact Or.inr ⟨q, PySem.W.cellsFrom_some _ _ _ (Or.inl q)⟩
  case run =>
    cases he
    refine And.intro (nolim.keeps inC.toInCall.keep) (codeAny_func ?_)
    have I0 := inv_start (CX := CX0) (P := P) (w := w) (K := K) (mg := mg) (base := base) (E := E) S room.hd e0 (size _ _ _ _ hsp) rel inC
    refine wpAny_mono (ht.nox.run [] s1 (start N vs) H _ I0 hq) ?_ (fun _ _ z => z)
    rintro fl s' hs
    have close : ∀ (σ' : L2.St) (H' : Hp) (v : V) (u : Value), Inv (cxOf CX0 P w K mg base N qual (defScope st) f cdv A outer s H E) [] σ' H' s' → RelV v u → Q v H' → CE outer P w H s Q u s' := by
      intro σ' H' v u J rv q
      exact ⟨v, H', J.os, J.bare, J.base, J.hok, rv, q⟩
    cases fl
    case ret u => obtain ⟨v, σ', H', J, rv, q⟩ := hs; exact close _ _ _ _ J rv q
    case next => obtain ⟨σ', H', J, q⟩ := hs; exact close _ _ V.non Value.none J rfl q
    case brk => obtain ⟨_, _, _, q⟩ := hs; exact q.elim
    case cont => obtain ⟨_, _, _, q⟩ := hs; exact q.elim
end

section
variable {X : Cx} {CX : CXT} {k : Nat} {f : Addr} {fd : FuncData} {ps : List Str} {sp : Sp} {E : XK} {x : Str} {p pos : Pos} {e : Expr} {es : List Expr} {t : TA}
/-- its call -/
theorem pe_callG (F : FnG X.prog X.w X.K X.mg X.base CX k f fd ps sp) (hg : X.A.guards = some []) (hr : Room k X.A) (gx : Gl X x) (hm : X.mg x = some (.ref f)) (hk : PySem.W.keepIn X.K (.ref f) = true) (hb : Binds X.K fd ps []) (hx : Passes CX X E)
    (ha : PA X (e :: es) t) (hdb : (x == ("__debug__" : Str)) = false := by decide) (he : starEach (e :: es) X.env = (false, eval e X.env) :: starEach es X.env := by rfl) (hpl : (backTo pos (starEach es X.env)).any (·.1) = false := by rfl) :
    PE X (.Call (.Name x p) (e :: es) [] pos) (tCall sp [] E t) := by
  constructor
  intro pins s σ H Q I h
  refine wpAny_Call_Name_kw (ld_glob I gx hm (PySem.W.callWith_K (h₀ := X.base) I.ok.mod.kin hk (thn (ha.run pos pins s σ H _ I h) ?_) he hpl) hdb)
  rintro us s1 ⟨vs, H1, I1, r, q⟩
  refine ⟨I1.kIn, ?_⟩
  have q' : sp vs H1 Q E := by simpa using q
  have hl : us.length = ps.length := by
    rw [← r.length]
    exact F.size _ _ _ _ q'
  have hB := hb s1 us I1.kIn (by simpa using hl)
  rw [List.append_nil] at hB
  refine wpAny_call (codeAny_mono (F.go X.A X.stack s1 H1 ⟨us, []⟩ us vs Q E hg hr I1.env0 hB r q') ?_)
  rintro (er | fl) s2 hq
  · exact hx pins σ H1 s1 er s2 I1 hq
  · cases fl
    case ret u => exact I1.after hq
    case next => exact hq.elim
    case brk => exact hq.elim
    case cont => exact hq.elim
end

/-- a comprehension without a test -/
theorem yes_then {σ : L2.St} {H : Hp} {A B : Hp → Prop} (h : A H) : tYes σ H (fun b H3 => if b = true then A H3 else B H3) := by
  show (if true = true then A H else B H)
  rw [if_pos rfl]
  exact h

/-! ### the law's own call -/
/-- the abstract heap in which the script alone is tracked, as it stands -/
def scriptHp (a : Addr) (o : Obj) (xs : List V) : Hp := fun b => if b = a then some (.frz o (.lst xs)) else none
theorem scriptHp_at {a : Addr} {o : Obj} {xs : List V} : scriptHp a o xs a = some (.frz o (.lst xs)) := if_pos rfl
theorem scriptHp_some {a b : Addr} {o : Obj} {xs : List V} {u : HO} (h : scriptHp a o xs b = some u) : b = a ∧ u = .frz o (.lst xs) := by
  unfold scriptHp at h
  split at h
  · rename_i e
    exact ⟨e, (Option.some.inj h).symm⟩
  · cases h

theorem ns_hid {h : Heap} {H : Hp} {b : Addr} {m : Str → Option Value} (q : h.Ns b m) (hb : H b = none) : (hidT h H).Ns b m := by
  obtain ⟨o, es, ep, e, r⟩ := q
  exact ⟨o, es, ep, hidT_get e hb, r⟩

theorem law_callG {P : Program} {w : World} {K : PySem.W.Frag} {mg mb : Str → Option Value} {k : Nat} {fa a : Addr} {fd : FuncData} {x : Str} {sp : Sp} {s₁ : Shared} {vs : List Value} {ns : List Int}
    (KX : K.In s₁.heap) (hns : s₁.heap.Ns mainGlobals mg) (hb : s₁.heap.Ns builtinsNs mb) (hbb : ∀ x : Str, x ≠ "__name__" → mb x = bootBuiltins x) (hlim : s₁.heap.NoLimit) (hg : s₁.gens = #[])
    (ha : s₁.heap.get? a = some { cls := .type "list", data := .seq vs.toArray }) (hi : IntsAre vs ns) (hl : ns.length ≤ sizeLine) (hr : Room k callerA)
    (F : ∀ base : Heap, K.In base → base.Ns mainGlobals mg → FnG P w K mg base CX0 k fa fd [x] sp) (hbind : ∀ (s : Shared) (u : Value), BindsTo s fd ⟨[u], []⟩ [(x, u)])
    (hsp : ∀ H : Hp, Only H → SqL K H a (ns.map V.int) → sp [.ref a] H (fun v _ => v = .bl true) fun _ _ _ => False) :
    codeAny (model P w) callerA (.call (.ref fa) ⟨[.ref a], []⟩) (fun r s' => r = .ok (.ret (.bool true)) ∧ OldK s₁.heap s'.heap ∧ s'.os = s₁.os ∧ AllBare s'.gens) s₁ := by
  have main : ∀ H : Hp, Only H → SqL K H a (ns.map V.int) → HOk P w H s₁.heap → (∀ b u, H b = some u → b = a ∧ K.lookup a = none) →
      codeAny (model P w) callerA (.call (.ref fa) ⟨[.ref a], []⟩) (fun r s' => r = .ok (.ret (.bool true)) ∧ OldK s₁.heap s'.heap ∧ s'.os = s₁.os ∧ AllBare s'.gens) s₁ := by
    intro H only seq ok one
    have free : ∀ b, (∀ o n, s₁.heap.get? b = some o → o.data ≠ .seq vs.toArray n) → H b = none := by
      intro b nb
      cases q : H b with
      | none => rfl
      | some u =>
        obtain ⟨rfl, _⟩ := one b u q
        exact absurd rfl (nb _ _ ha)
    have freeD : ∀ {b : Addr} {m : Str → Option Value}, s₁.heap.Ns b m → H b = none := by
      rintro b m ⟨o, es, ep, e, d, _⟩
      refine free b fun o' n e' d' => ?_
      rw [e] at e'
      cases e'
      rw [d] at d'
      cases d'
    have inB : K.In (hidT s₁.heap H) := by
      intro b o e
      refine hidT_get (KX b o e) ?_
      cases q : H b with
      | none => rfl
      | some u =>
        obtain ⟨rfl, z⟩ := one b u q
        rw [z] at e
        cases e
    have gB := ns_hid hns (freeD hns)
    have md : Mod K mg (hidT s₁.heap H) := by
      refine ⟨inB, gB, ⟨mb, ns_hid hb (freeD hb), hbb⟩, ?_⟩
      obtain ⟨mc, h1, h2⟩ := hlim
      exact ⟨mc, ns_hid h1 (freeD h1), h2⟩
    have start0 : Env0 P w K mg (hidT s₁.heap H) callerA [] s₁ H := by
      constructor
      · rfl
      · exact md
      · exact fun b o e => of_hidT e
      · exact Nat.le_of_eq (hidT_size _ _)
      · trivial
      · intro b hb
        exact absurd (show b ∈ ([] : List Addr) from hb) (by simp)
      · exact ok
      · exact .of_eq hg
    have run := (F _ inB gB).go callerA [] s₁ H ⟨[.ref a], []⟩ [.ref a] [.ref a] (fun v _ => v = .bl true) (fun _ _ _ => False) rfl hr start0 (hbind s₁ (.ref a)) (.cons rfl .nil) (hsp H only seq)
    refine codeAny_mono run ?_
    rintro (er | fl) s' h
    · exact False.elim h
    cases fl with
    | next => exact False.elim h
    | brk => exact False.elim h
    | cont => exact False.elim h
    | ret u =>
      obtain ⟨v, H', os, bare, un, ok', rv, q⟩ := h
      cases (show v = .bl true from q)
      cases (show u = Value.bool true from rv)
      refine ⟨rfl, OldK.of_keep ?_, os, bare⟩
      intro b o e
      cases z : H b with
      | none => exact un.keep b o e z (fun m => absurd (show b ∈ ([] : List Addr) from m) (by simp)) (by simp)
      | some u =>
        rcases only b with z' | ⟨ob, xs, z'⟩
        · rw [z] at z'
          cases z'
        · have e1 := (ok b _ z').1
          have e2 := (ok' b _ (un.frzs b ob _ z')).1
          rw [e] at e1
          rw [e1]
          exact e2
  have rv := vals_ints hi
  cases hk : K.lookup a with
  | some o =>
    have e := KX a o hk
    rw [ha] at e
    cases e
    refine main (fun _ => none) (fun _ => .inl rfl) (.inr ⟨_, vs.toArray, _, hk, rfl, rfl, rfl, ?_, by simpa using rv⟩) ?_ ?_
    · rw [List.size_toArray, hi.length]
      exact hl
    · intro b u z
      cases z
    · intro b u z
      cases z
  | none =>
    refine main (scriptHp a { cls := .type "list", data := .seq vs.toArray } (ns.map V.int)) ?_ (.inl (.inr ⟨_, scriptHp_at⟩)) ?_ ?_
    · intro b
      cases z : scriptHp a { cls := .type "list", data := .seq vs.toArray } (ns.map V.int) b with
      | none => exact .inl rfl
      | some u => exact .inr ⟨_, _, by rw [(scriptHp_some z).2]⟩
    · intro b u z
      obtain ⟨rfl, rfl⟩ := scriptHp_some z
      refine ⟨ha, ?_, vs, _, rv, ha⟩
      rw [List.length_map]
      exact hl
    · intro b u z
      exact ⟨(scriptHp_some z).1, hk⟩

theorem walk_g {l : PySem.W.OpenLaw} {n k : Nat} {q : Program} {loose : List Str} {XP : (Str → Option Value) → Heap → Prop} {YP : World → Heap → Prop} {d : DefRec} {K : Params → PySem.W.Frag} {sp : PySem.W.Frag → Sp} {x : Str}
    (hn : l.most = some n) (hn2 : n ≤ sizeLine) (hdf : d.params.defaults = []) (hr : Room k callerA)
    (hY : ∀ (w : World) (h : Heap), YP w h → (K w.params).In h)
    (F : ∀ (w : World) (mg : Str → Option Value) (fa : Addr) (h : Heap), (K w.params).In h → h.Ns mainGlobals mg → mg d.name = some (.ref fa) →
      ∃ fd : FuncData, (∀ (s : Shared) (u : Value), BindsTo s fd ⟨[u], []⟩ [(x, u)]) ∧
        ∀ base : Heap, (K w.params).In base → base.Ns mainGlobals mg → FnG l.prog w (K w.params) mg base CX0 k fa fd [x] (sp (K w.params)))
    (hsp : ∀ (K : PySem.W.Frag) (H : Hp) (a : Addr) (ns : List Int), ns.length ≤ n → Only H → SqL K H a (ns.map V.int) → sp K [.ref a] H (fun v _ => v = .bl true) fun _ _ _ => False) :
    PySem.W.WalkO q loose XP YP l.row.toRowW d [] (fun f vs => PySem.call f vs) := by
  apply Att.attach_call hn hdf
  intro w s₀ s₁ mg mb fa o pm cd doc a vs ns G Y ho hd hcd hmg hobj hints hlen hg
  obtain ⟨fd, bnd, keeps⟩ := F w mg fa _ (hY w _ Y) G.T.g hmg
  exact law_callG (hY w _ Y) G.T.g G.T.b G.T.builtins G.T.nolimit hg hobj hints (Nat.le_trans hlen hn2) hr keeps bnd (fun H => hsp _ H a ns hlen)
end GR

namespace K5
open PySem PySem.Spec PyProof.Rows L2 GR
abbrev LIM : Int := 1000000000000000000
def topS (i : Nat) : Stmt := PySem.Challenge.pw_lookdone_k05_parts_depths_variables_colu.main.body.getD i (.Pass ⟨0, 0, 0, 0⟩)
theorem same_upd {H : Hp} {p : Addr} {o : HO} (h : H p = none) : Same H (upd H p o) := fun b x e => by
  rw [upd_ne (ne_of_none e h)]
  exact e
theorem le2 : 2 ≤ sizeLine := by decide
theorem at0 {xs : List V} {v : V} : atI (v :: xs) 0 = some v := atI_nat (j := 0) rfl
theorem at1 {xs : List V} {v u : V} : atI (u :: v :: xs) 1 = some v := atI_nat (j := 1) rfl
theorem at2 {xs : List V} {v u t : V} : atI (t :: u :: v :: xs) 2 = some v := atI_nat (j := 2) rfl
theorem at3 {xs : List V} {v u t s : V} : atI (s :: t :: u :: v :: xs) 3 = some v := atI_nat (j := 3) rfl
/-! ### the law's deck -/
/-- the deck at d: the cells at c, a number, the count of draws, at most N -/
def Deck (H : Hp) (d c : Addr) (N : Int) : Prop := ∃ (cells : List Int) (m n : Int), H d = some (.lst [.ref c, .int m, .int n]) ∧ H c = some (.lst (cells.map V.int)) ∧ cells.length ≤ 63 ∧ 0 ≤ n ∧ n ≤ N
theorem Deck.ne {H : Hp} {d c : Addr} {N : Int} (h : Deck H d c N) : c ≠ d := by
  obtain ⟨cells, m, n, h1, h2, _⟩ := h
  rintro rfl
  rw [h1] at h2
  have e := HO.lst.inj (Option.some.inj h2)
  cases cells with
  | nil => cases e
  | cons x r =>
    have := (List.cons.inj e).1
    cases this
theorem Deck.mono {H : Hp} {d c : Addr} {N M : Int} (h : Deck H d c N) (hm : N ≤ M) : Deck H d c M := by
  obtain ⟨cells, m, n, h1, h2, h3, h4, h5⟩ := h
  exact ⟨cells, m, n, h1, h2, h3, h4, Int.le_trans h5 hm⟩
/-- all but the deck is as it was -/
def Keep (d c : Addr) (H H' : Hp) : Prop := ∀ b o, b ≠ d → b ≠ c → H b = some o → H' b = some o
theorem Keep.refl {d c : Addr} {H : Hp} : Keep d c H H := fun _ _ _ _ e => e
theorem Keep.trans {d c : Addr} {H H1 H2 : Hp} (a : Keep d c H H1) (b : Keep d c H1 H2) : Keep d c H H2 := fun x o h1 h2 e => b x o h1 h2 (a x o h1 h2 e)
theorem Keep.of {d c : Addr} {H H' : Hp} (s : Same H H') : Keep d c H H' := fun b o _ _ e => s b o e
theorem Deck.same {H H' : Hp} {d c : Addr} {N : Int} (h : Deck H d c N) (s : Same H H') : Deck H' d c N := by
  obtain ⟨cells, m, n, h1, h2, h3⟩ := h
  exact ⟨cells, m, n, s _ _ h1, s _ _ h2, h3⟩
/-- a tuple, a list that is not the deck's stays -/
theorem Keep.tup {d c p : Addr} {H H' : Hp} {N : Int} {xs : List V} (s : Keep d c H H') (D : Deck H d c N) (h : H p = some (.tup xs)) : H' p = some (.tup xs) := by
  obtain ⟨cells, m, n, h1, h2, _⟩ := D
  exact s p _ (ne_of h h1 (fun z => by cases z)) (ne_of h h2 (fun z => by cases z)) h
theorem dp_ints {K : PySem.W.Frag} {H : Hp} : ∀ ns : List Int, DpAll K H (ns.map V.int) (ns.map PyData.int)
  | [] => .nil
  | n :: ns => .cons (.int n) (dp_ints ns)
theorem lay_ints : ∀ ns : List Int, PyData.canLayAll0 (ns.map PyData.int) = true
  | [] => by simp only [List.map_nil, PyData.canLayAll0]
  | n :: ns => by simp only [List.map_cons, PyData.canLayAll0, PyData.canLay0, lay_ints ns, Bool.and_self]
theorem depth_ints : ∀ ns : List Int, PyData.depthAll (ns.map PyData.int) ≤ 1
  | [] => by simp only [List.map_nil, PyData.depthAll]; omega
  | n :: ns => by
    have := depth_ints ns
    simp only [List.map_cons, PyData.depthAll, PyData.depth]
    omega
theorem shaped_ints (ns : List Int) : SeqAt.shaped (.list (ns.map PyData.int)) = true := by
  have := depth_ints ns
  unfold SeqAt.shaped
  rw [Bool.and_eq_true]
  refine ⟨by simp only [PyData.canLay0, lay_ints], decide_eq_true ?_⟩
  simp only [PyData.depth]
  omega
theorem neq_nil : ∀ ns : List Int, (!PyData.eqv (.list (ns.map PyData.int)) (.list [])) = !ns.isEmpty
  | [] => by simp only [List.map_nil, PyData.eqv, PyData.eqvAll, List.isEmpty_nil]
  | n :: ns => by simp only [List.map_cons, PyData.eqv, PyData.eqvAll, List.isEmpty_cons]

def num1 (z n : Int) : Int := (z % 2147483629 + 8429 * (n + 1) * (n + 1) + 53) * 48271 % 2147483647
theorem num1_rng (z n : Int) : -(2 ^ 64) < num1 z n ∧ num1 z n < 2 ^ 64 := by
  unfold num1
  omega
def num2 (x n : Int) : Int := (x * x + 69621 * x + (n + 1)) % 2147483587
theorem num2_rng (x n : Int) : -(2 ^ 64) < num2 x n ∧ num2 x n < 2 ^ 64 := by
  unfold num2
  omega

section
variable {P : Program} {w : World} {K : PySem.W.Frag} {mg : Str → Option Value} {base : Heap}
abbrev s_law_draw : Stmt := topS 14
theorem sc_law_draw : FnScope ["_law_deck_here", "_law_most", "_law_cell", "_law_number"] ["_law_deck_here", "_law_most"] (defScope s_law_draw) := ⟨rfl, rfl, rfl, by decide +kernel, rfl, by decide +kernel, by decide +kernel⟩
def sp_draw : Sp := fun vs H Q _ => ∃ (d c : Addr) (N most : Int), vs = [.ref d, .int most] ∧ Deck H d c N ∧ N < 2 ^ 60 ∧ 0 < most ∧ most < 2 ^ 100 ∧
  ∀ H' r, Keep d c H H' → Deck H' d c (N + 1) → 0 ≤ r → r < most → Q (.int r) H'
theorem ok_draw {f : Addr} {fd : FuncData} {k : Nat} (F : Fun K "_law_draw" "_law_draw" s_law_draw f fd) :
    FnOk P w K mg base CX0 (k + 1) f fd ["_law_deck_here", "_law_most"] sp_draw := by
  have nd := sc_law_draw.nd
  refine F.ok sc_law_draw (fun vs H Q E h => ?_) (fun cdv A outer s H vs Q E hr h => ?_)
  · obtain ⟨d, c, N, most, rfl, _⟩ := h
    rfl
  obtain ⟨d, c, N, most, rfl, D, hN, hm0, hm1, q⟩ := h
  have hcd := D.ne
  obtain ⟨cells, m, n, hd, hc, hlen, hn0, hn1⟩ := D
  refine ⟨_, (pss_cons (ps_asg (pe_op op_add (pe_ix ix_list (pv 0) pe_int (fun _ _ => rfl)) pe_int) (pg_sub (pv 0) pe_int set_list))
      (pss_cons (ps_set (i := 2) nd rfl (.inl rfl) (pe_ix ix_list (pv 0) pe_int (fun _ _ => rfl)))
      (Evl.pss_cut (ps_if (pt_cmpR (op_neD hr.units) (pe_ix ix_list (pv 0) pe_int (fun _ _ => rfl)) (pe_lst pa_nil) (nomark _))
      (pss_cons (ps_set (i := 2) nd rfl (.inl rfl) (pe_bm0 PySem.F.plainAttrs_list PySem.F.slot_list_pop PySem.F.type_list_pop mt_pop (pe_ix ix_list (pv 0) pe_int (fun _ _ => rfl))))
        (pss_one (ps_if (pt_cmpR op_ge (pv 2) (pe_op op_pow pe_int pe_int) (nomark _))
        (pss_cons (ps_expr (pe_bm PySem.F.plainAttrs_list PySem.F.slot_list_append PySem.F.type_list_append mt_append (pe_ix ix_list (pv 0) pe_int (fun _ _ => rfl)) (pa_cons (pe_op op_fdivW (pv 2) (pv 1)) pa_nil)))
          (pss_one (ps_ret (pe_op op_mod (pv 2) (pv 1)))))
        pss_nil)))
      pss_nil)
      (pss_cons (ps_set (i := 3) nd rfl (.inl rfl) (pe_op op_mod (pe_op op_mul (pe_op op_add (pe_op op_add (pe_op op_mod (pv 2) pe_int) (pe_op op_mul (pe_op op_mul pe_int (pe_ix ix_list (pv 0) pe_int (fun _ _ => rfl))) (pe_ix ix_list (pv 0) pe_int (fun _ _ => rfl)))) pe_int) pe_int) pe_int))
      (pss_cons (ps_set (i := 3) nd rfl (.inl rfl) (pe_op op_mod (pe_op op_add (pe_op op_add (pe_op op_mul (pv 3) (pv 3)) (pe_op op_mul pe_int (pv 3))) (pe_ix ix_list (pv 0) pe_int (fun _ _ => rfl))) pe_int))
      (pss_one (ps_ret (pe_op op_mod (pe_op op_fdivW (pe_op op_mod (pe_op op_mul (pv 3) (pe_op op_add (pe_op op_fdivW (pv 3) pe_int) pe_int)) pe_int) pe_int) (pv 1))))))))), ?_⟩
  refine ⟨.ref d, rfl, d, _, 2, _, rfl, rfl, .inl (.inl hd), at2, _, _, rfl, rfl, .ref d, rfl, d, _, 2, 2, rfl, rfl, hd, rfl, ?_⟩
  -- the deck with one draw more
  have h1d : upd H d (.lst [.ref c, .int m, .int (n + 1)]) d = some (.lst [.ref c, .int m, .int (n + 1)]) := upd_same
  have h1c : upd H d (.lst [.ref c, .int m, .int (n + 1)]) c = some (.lst (cells.map V.int)) := by
    rw [upd_ne hcd]
    exact hc
  have k1 : Keep d c H (upd H d (.lst [.ref c, .int m, .int (n + 1)])) := fun b o nb _ e => by
    rw [upd_ne nb]
    exact e
  refine ⟨.ref d, rfl, d, _, 1, _, rfl, rfl, .inl (.inl h1d), at1, ?_⟩
  have wd : CDivW 0 most := wide_div hm0 (b := 100) (by omega) (by decide) (by decide)
  refine ⟨fun σ' H' => ∃ (z : Int) (cells' : List Int), σ' = [some (.ref d), some (.int most), some (.int z), none] ∧ Keep d c H H' ∧ H' d = some (.lst [.ref c, .int m, .int (n + 1)]) ∧ H' c = some (.lst (cells'.map V.int)) ∧ cells'.length ≤ 63, ?_, ?_⟩
  · refine ⟨.ref d, rfl, d, _, 0, _, rfl, rfl, .inl (.inl h1d), at0, Nat.zero_le _, fun e ne => ?_⟩
    have s2 : Same (upd H d (.lst [.ref c, .int m, .int (n + 1)])) (upd (upd H d (.lst [.ref c, .int m, .int (n + 1)])) e (.lst [])) := same_upd ne
    have h2d := s2 _ _ h1d
    have h2c := s2 _ _ h1c
    have k2 := k1.trans (Keep.of s2)
    refine ⟨_, _, .lst (.inl (.inl h2c)) (dp_ints cells), .lst (.inl (.inl upd_same)) .nil, shaped_ints cells, shaped_ints [], _, rfl, ?_⟩
    rw [neq_nil]
    cases hcs : cells with
    | nil => exact iteF ⟨m, cells, rfl, k2, h2d, h2c, hlen⟩
    | cons x0 r0 =>
      refine iteT ?_
      have hne : cells ≠ [] := by
        rw [hcs]
        exact List.cons_ne_nil _ _
      have hlast : (cells.map V.int)[(cells.map V.int).length - 1]? = some (.int (cells.getLast hne)) := by
        rw [List.length_map, List.getElem?_map, ← List.getLast?_eq_getElem?, List.getLast?_eq_getLast hne]
        rfl
      refine ⟨.ref d, rfl, d, _, 0, _, rfl, rfl, .inl (.inl h2d), at0, .inl ⟨rfl, _, .inl (.inl h2c)⟩, c, _, _, rfl, rfl, h2c, hlast, ?_⟩
      have hdrop : (cells.map V.int).dropLast = cells.dropLast.map V.int := by rw [List.map_dropLast]
      rw [hdrop]
      have h3d : upd (upd (upd H d (.lst [.ref c, .int m, .int (n + 1)])) e (.lst [])) c (.lst (cells.dropLast.map V.int)) d = some (.lst [.ref c, .int m, .int (n + 1)]) := by
        rw [upd_ne hcd.symm]
        exact h2d
      have h3c : upd (upd (upd H d (.lst [.ref c, .int m, .int (n + 1)])) e (.lst [])) c (.lst (cells.dropLast.map V.int)) c = some (.lst (cells.dropLast.map V.int)) := upd_same
      have k3 : Keep d c H (upd (upd (upd H d (.lst [.ref c, .int m, .int (n + 1)])) e (.lst [])) c (.lst (cells.dropLast.map V.int))) := fun b o n1 n2 e1 => by
        rw [upd_ne n2]
        exact k2 b o n1 n2 e1
      have l3 : cells.dropLast.length + 1 ≤ 63 := by
        rw [List.length_dropLast, hcs, List.length_cons]
        rw [hcs, List.length_cons] at hlen
        omega
      generalize cells.getLast hne = z
      refine ⟨.int z, rfl, _, _, rfl, rfl, ⟨by decide, by decide, by decide⟩, _, _, rfl, rfl, _, rfl, ite2 (fun e5 => ?_) (fun e5 => ?_)⟩
      · refine ⟨.ref d, rfl, d, _, 0, _, rfl, rfl, .inl (.inl h3d), at0, .inl ⟨rfl, _, .inl (.inl h3c)⟩, .int z, rfl, .int most, rfl, z, most, rfl, rfl, wd, c, _, _, rfl, rfl, h3c, ?_, ?_⟩
        · rw [List.length_map]
          exact small1000 (by omega)
        · refine ⟨.int z, rfl, .int most, rfl, z, most, rfl, rfl, hm0, ?_⟩
          refine q _ _ ?_ ?_ (Int.emod_nonneg _ (by omega)) (Int.emod_lt_of_pos _ hm0)
          · intro b o n1 n2 e1
            rw [upd_ne n2]
            exact k3 b o n1 n2 e1
          · refine ⟨cells.dropLast ++ [z / most], m, n + 1, ?_, ?_, ?_, by omega, by omega⟩
            · rw [upd_ne hcd.symm]
              exact h3d
            · rw [upd_same, List.map_append]
              rfl
            · rw [List.length_append, List.length_singleton]
              exact l3
      · exact ⟨z, cells.dropLast, rfl, k3, h3d, h3c, by omega⟩
  · rintro σ' H' ⟨z, cells', rfl, kk, h5d, h5c, hl5⟩
    have hn2 : -(2 ^ 64) < n + 1 ∧ n + 1 < 2 ^ 64 := by omega
    refine ⟨.int z, rfl, z, 2147483629, rfl, rfl, (show (0 : Int) < 2147483629 by decide), .ref d, rfl, d, _, 2, _, rfl, rfl, .inl (.inl h5d), at2, 8429, n + 1, rfl, rfl, .inl ⟨by decide, by decide⟩, .ref d, rfl, d, _, 2, _, rfl, rfl, .inl (.inl h5d), at2, 8429 * (n + 1), n + 1, rfl, rfl, .inr hn2, _, _, rfl, rfl, _, _, rfl, rfl, _, 48271, rfl, rfl, .inr ⟨by decide, by decide⟩, _, 2147483647, rfl, rfl, (show (0 : Int) < 2147483647 by decide), ?_⟩
    have b1 := num1_rng z n
    refine ⟨.int (num1 z n), rfl, .int (num1 z n), rfl, num1 z n, num1 z n, rfl, rfl, .inl b1, .int (num1 z n), rfl, 69621, num1 z n, rfl, rfl, .inr b1, _, _, rfl, rfl, .ref d, rfl, d, _, 2, _, rfl, rfl, .inl (.inl h5d), at2, _, _, rfl, rfl, _, 2147483587, rfl, rfl, (show (0 : Int) < 2147483587 by decide), ?_⟩
    have b2 := num2_rng (num1 z n) n
    refine ⟨.int (num2 (num1 z n) n), rfl, .int (num2 (num1 z n) n), rfl, num2 (num1 z n) n, 5, rfl, rfl, ⟨by decide, by decide⟩, _, _, rfl, rfl, num2 (num1 z n) n, _, rfl, rfl, .inl b2, _, 2147483579, rfl, rfl, (show (0 : Int) < 2147483579 by decide), _, 64, rfl, rfl, ⟨by decide, by decide⟩, .int most, rfl, _, most, rfl, rfl, hm0, ?_⟩
    exact q _ _ kk ⟨cells', m, n + 1, h5d, h5c, hl5, by omega, by omega⟩ (Int.emod_nonneg _ (by omega)) (Int.emod_lt_of_pos _ hm0)
end
theorem Keep.seq {K : PySem.W.Frag} {d c a : Addr} {H H' : Hp} {xs : List V} (s : Keep d c H H') (h : SqL K H a xs) (h1 : a ≠ d) (h2 : a ≠ c) : SqL K H' a xs := by
  rcases h with (h | ⟨o, h⟩) | h
  · exact .inl (.inl (s _ _ h1 h2 h))
  · exact .inl (.inr ⟨o, s _ _ h1 h2 h⟩)
  · exact .inr h
theorem cut63 (ns : List Int) : ∃ ms : List Int, cutV (ns.map V.int) none (some 63) = ms.map V.int ∧ ms.length ≤ 63 := by
  refine ⟨ns.take (min 63 ns.length), ?_, ?_⟩
  · unfold cutV
    rw [HT.sIx_none, show HT.sIx (ns.map V.int).length (ns.map V.int).length (some 63) = min 63 (ns.map V.int).length from HT.sIx_nat _ _ 63, List.drop_zero, List.map_take, List.length_map, Nat.sub_zero]
  · rw [List.length_take]
    omega
theorem small_le {n : Nat} (h : n ≤ 1000) : n ≤ sizeLine := Nat.le_of_lt (small1000 h)
section
variable {P : Program} {w : World} {K : PySem.W.Frag} {mg : Str → Option Value} {base : Heap}
abbrev s_law_deck : Stmt := topS 13
theorem sc_law_deck : FnScope ["_law_script", "_law_cells"] ["_law_script"] (defScope s_law_deck) := ⟨rfl, rfl, rfl, by decide +kernel, rfl, by decide +kernel, by decide +kernel⟩
def sp_deck (K : PySem.W.Frag) : Sp := fun vs H Q _ => ∃ (a : Addr) (ns : List Int), vs = [.ref a] ∧ SqL K H a (ns.map V.int) ∧ ∀ H' d c, Same H H' → H d = none → Deck H' d c 0 → Q (.ref d) H'
theorem ok_deck {f : Addr} {fd : FuncData} {k : Nat} (F : Fun K "_law_deck" "_law_deck" s_law_deck f fd) (mlist : mg "list" = none) (msum : mg "sum" = none) (mlen : mg "len" = none) :
    FnOk P w K mg base CX0 (k + 1) f fd ["_law_script"] (sp_deck K) := by
  have nd := sc_law_deck.nd
  refine F.ok sc_law_deck (fun vs H Q E h => ?_) (fun cdv A outer s H vs Q E hr h => ?_)
  · obtain ⟨a, ns, rfl, _⟩ := h
    rfl
  obtain ⟨a, ns, rfl, hS, q⟩ := h
  obtain ⟨ms, hms, hl⟩ := cut63 ns
  refine ⟨_, (pss_cons (ps_set (i := 1) nd rfl (.inl rfl) (pe_callTy call_list_of (by rfl) mlist boot_list (pa_cons (pe_slice sl_list (pv 0) po_none (po_some pe_int)) pa_nil)))
      (pss_one (ps_ret (pe_lst (pa_cons (pe_revL (pv 1)) (pa_cons (pe_op op_add (pe_op op_mod (pe_callB (cr_sum rfl) (by rfl) msum boot_sum (pa_cons (pv 1) pa_nil)) pe_int) (pe_op op_mul pe_int (pe_callB call_len_seq (by rfl) mlen PySem.boot_len (pa_cons (pv 1) pa_nil)))) (pa_cons pe_int pa_nil))))))), ?_⟩
  refine ⟨.ref a, rfl, 63, rfl, a, _, rfl, hS, fun p np => ?_⟩
  rw [hms]
  have s1 : Same H (upd H p (.lst (ms.map V.int))) := same_upd np
  refine ⟨p, _, rfl, .inl (.inl (.inl upd_same)), fun l nl => ?_⟩
  have s2 := same_upd (o := .lst (ms.map V.int)) nl
  have hl2 : SqL K (upd (upd H p (.lst (ms.map V.int))) l (.lst (ms.map V.int))) l (ms.map V.int) := .inl (.inl upd_same)
  refine ⟨.ref l, rfl, l, _, rfl, hl2, fun c nc => ?_⟩
  have s3 := same_upd (o := .lst (ms.map V.int).reverse) nc
  refine ⟨.ref l, rfl, l, ms, rfl, s3.seq hl2, _, 2147483629, rfl, rfl, (show (0 : Int) < 2147483629 by decide), .ref l, rfl, l, _, rfl, .inl (s3.seq hl2), 40692, _, rfl, rfl, .inl ⟨by decide, by decide⟩, _, _, rfl, rfl, small_le (show 3 ≤ 1000 by decide), fun d nd' => ?_⟩
  refine q _ d c ((s1.trans s2).trans (s3.trans (same_upd nd'))) ?_ ?_
  · exact s1.free (s2.free (s3.free nd'))
  · refine ⟨ms.reverse, _, 0, upd_same, ?_, ?_, Int.le_refl 0, Int.le_refl 0⟩
    · have : c ≠ d := ne_of_none (show upd _ c _ c = _ from upd_same) nd'
      rw [upd_ne this, upd_same, List.map_reverse]
    · rw [List.length_reverse]
      exact hl
end
theorem Deck.new {H : Hp} {d c a : Addr} {N : Int} (D : Deck H d c N) (na : H a = none) : a ≠ d ∧ a ≠ c := by
  obtain ⟨cells, m, n, h1, h2, _⟩ := D
  exact ⟨(ne_of_none h1 na).symm, (ne_of_none h2 na).symm⟩
theorem Keep.free {d c a : Addr} {H H' : Hp} (s : Keep d c H H') (na : H' a = none) (h1 : a ≠ d) (h2 : a ≠ c) : H a = none := by
  cases q : H a with
  | none => rfl
  | some o =>
    rw [s a o h1 h2 q] at na
    cases na
end K5

namespace K5
open PySem PySem.Spec PyProof.Rows L2 GR
abbrev L26 : Str := "abcdefghijklmnopqrstuvwxyz"
def sgn (c : Nat) : Str := ⟨#[c]⟩
theorem l26_len : L26.length = 26 := by decide
theorem l26_at : ∀ k, k < 26 → L26.cps.toList[k]? = some (97 + k) := by decide
theorem l26_occ : ∀ k, k < 26 → Builtin.Str.occurrences L26 (sgn (97 + k)) 0 L26.length 1 = [k] := by decide +kernel
def Low (c : Nat) : Prop := 97 ≤ c ∧ c ≤ 122
/-- the words that are no names -/
def barred : List Str := ["key", "if", "at", "count", "sum", "most", "first", "let", "need", "put", "each", "tell"]
/-- a name -/
def Nm (z : Str) : Prop := 1 ≤ z.cps.toList.length ∧ z.cps.toList.length ≤ 8 ∧ (∀ c, c ∈ z.cps.toList → Low c) ∧ z ∉ barred
theorem nm_lit {z : Str} (h : (decide (1 ≤ z.cps.toList.length) && decide (z.cps.toList.length ≤ 8) && z.cps.toList.all (fun c => decide (97 ≤ c) && decide (c ≤ 122)) && decide (z ∉ barred)) = true) : Nm z := by
  simp only [Bool.and_eq_true, decide_eq_true_eq, List.all_eq_true] at h
  obtain ⟨⟨⟨h1, h2⟩, h3⟩, h4⟩ := h
  exact ⟨h1, h2, fun c hc => h3 c hc, h4⟩
theorem barred_q : ∀ z, z ∈ barred → z.cps.toList.head? ≠ some 113 := by decide
/-- the text of single signs, joined -/
theorem join_signs : ∀ cs : List Nat, (Txt.join Str.empty (cs.map sgn)).cps.toList = cs := by
  intro cs
  have hj : ∀ cs : List Nat, TL.joinL [] (cs.map fun c => [c]) = cs := by
    intro cs
    induction cs with
    | nil => rfl
    | cons a r ih =>
      cases r with
      | nil => rfl
      | cons b r =>
        show [a] ++ ([] ++ TL.joinL [] ((b :: r).map fun c => [c])) = a :: b :: r
        rw [ih]
        rfl
  have := TL.tl_join Str.empty (cs.map sgn)
  rw [List.map_map] at this
  rw [TL.join_eq]
  exact this.trans (hj cs)
section
variable {P : Program} {w : World} {K : PySem.W.Frag} {mg : Str → Option Value} {base : Heap}
abbrev s_law_pick : Stmt := topS 15
theorem sc_law_pick : FnScope ["_law_deck_here", "_law_some"] ["_law_deck_here", "_law_some"] (defScope s_law_pick) := ⟨rfl, rfl, rfl, by decide +kernel, rfl, by decide +kernel, by decide +kernel⟩
/-- a pick from a list, or from the letters -/
def sp_pick (K : PySem.W.Frag) : Sp := fun vs H Q _ =>
  (∃ (d c a : Addr) (N : Int) (xs : List V), vs = [.ref d, .ref a] ∧ Deck H d c N ∧ N < 2 ^ 60 ∧ SqL K H a xs ∧ xs ≠ [] ∧ xs.length ≤ 1000 ∧ a ≠ d ∧ a ≠ c ∧ ∀ H' v, Keep d c H H' → Deck H' d c (N + 1) → v ∈ xs → Q v H') ∨
  (∃ (d c : Addr) (N : Int), vs = [.ref d, .str L26] ∧ Deck H d c N ∧ N < 2 ^ 60 ∧ ∀ H' k, Keep d c H H' → Deck H' d c (N + 1) → k < 26 → Q (.str (sgn (97 + k))) H')
theorem ok_pick {f f_law_draw : Addr} {fd fd_law_draw : FuncData} {k : Nat} (F : Fun K "_law_pick" "_law_pick" s_law_pick f fd) (G_law_draw : FnOk P w K mg base CX0 k f_law_draw fd_law_draw ["_law_deck_here", "_law_most"] sp_draw)
    (g_law_draw : mg "_law_draw" = some (.ref f_law_draw)) (K_law_draw : PySem.W.keepIn K (.ref f_law_draw) = true) (b_law_draw : Binds K fd_law_draw ["_law_deck_here", "_law_most"] []) (mlen : mg "len" = none) :
    FnOk P w K mg base CX0 (k + 1) f fd ["_law_deck_here", "_law_some"] (sp_pick K) := by
  have nd := sc_law_pick.nd
  refine F.ok sc_law_pick (fun vs H Q E h => ?_) (fun cdv A outer s H vs Q E hr h => ?_)
  · rcases h with ⟨d, c, a, N, xs, rfl, _⟩ | ⟨d, c, N, rfl, _⟩ <;> rfl
  refine ⟨_, (pss_one (ps_ret (pe_ix ix_seq (pv 1) (pe_call G_law_draw hr (by rfl) g_law_draw K_law_draw b_law_draw .nil pass0 (pa_cons (pv 0) (pa_cons (pe_callB call_len (by rfl) mlen PySem.boot_len (pa_cons (pv 1) pa_nil)) pa_nil))) (fun _ _ => rfl)))), ?_⟩
  rcases h with ⟨d, c, a, N, xs, rfl, D, hN, hS, hne, hlen, had, hac, q⟩ | ⟨d, c, N, rfl, D, hN, q⟩
  · have hpos : 0 < xs.length := List.length_pos_iff.mpr hne
    refine ⟨.ref a, rfl, .ref d, rfl, .ref a, rfl, .ref a, xs.length, rfl, .inl ⟨xs, hS, rfl⟩, d, c, N, (xs.length : Int), rfl, D, hN, by omega, by omega, fun H' r kp D' r0 r1 => ?_⟩
    obtain ⟨j, rfl⟩ := Int.eq_ofNat_of_zero_le r0
    have hj : j < xs.length := by omega
    exact .inl ⟨a, xs, j, xs[j], rfl, rfl, kp.seq hS had hac, atI_nat (List.getElem?_eq_getElem hj), q H' _ kp D' (List.getElem_mem hj)⟩
  · refine ⟨.str L26, rfl, .ref d, rfl, .str L26, rfl, .str L26, 26, rfl, ⟨by rw [l26_len]; decide, l26_len.symm⟩, d, c, N, 26, rfl, D, hN, by decide, by decide, fun H' r kp D' r0 r1 => ?_⟩
    obtain ⟨j, rfl⟩ := Int.eq_ofNat_of_zero_le r0
    have hj : j < 26 := by omega
    exact .inr (.inr ⟨L26, j, 97 + j, rfl, rfl, by rw [l26_len]; decide, atI_nat (l26_at j hj), q H' j kp D' hj⟩)
end
end K5

namespace K5
open PySem PySem.Spec PyProof.Rows L2 GR
/-- lists of texts of single signs -/
def sg (cs : List Nat) : List V := (cs.map sgn).map V.str
theorem sg_length (cs : List Nat) : (sg cs).length = cs.length := by
  unfold sg
  rw [List.length_map, List.length_map]
theorem sg_snoc (cs : List Nat) (c : Nat) : sg cs ++ [V.str (sgn c)] = sg (cs ++ [c]) := by
  unfold sg
  simp
theorem sg_set (cs : List Nat) (i c : Nat) : (sg cs).set i (V.str (sgn c)) = sg (cs.set i c) := by
  unfold sg
  rw [List.map_set, List.map_set]
theorem sg_get {cs : List Nat} {i c : Nat} (h : cs[i]? = some c) : (sg cs)[i]? = some (V.str (sgn c)) := by
  unfold sg
  rw [List.getElem?_map, List.getElem?_map, h]
  rfl
theorem nm_signs {z : Str} {cs : List Nat} (hz : z.cps.toList = 113 :: cs) (h0 : cs.length ≤ 7) (hl : ∀ c, c ∈ cs → Low c) : Nm z := by
  refine ⟨by rw [hz]; simp, by rw [hz, List.length_cons]; omega, ?_, fun hb => ?_⟩
  · rw [hz]
    intro c hc
    rcases List.mem_cons.mp hc with rfl | hc
    · exact ⟨by decide, by decide⟩
    · exact hl c hc
  · have := barred_q z hb
    rw [hz] at this
    exact this rfl
theorem sgn_length (cs : List Nat) : ((cs.map sgn).map (·.length)).sum = cs.length := by
  induction cs with
  | nil => rfl
  | cons c r ih =>
    rw [List.map_cons, List.map_cons, List.sum_cons, ih, List.length_cons]
    show 1 + r.length = r.length + 1
    omega
section
variable {P : Program} {w : World} {K : PySem.W.Frag} {mg : Str → Option Value} {base : Heap}
abbrev s_law_names : Stmt := topS 16
abbrev N_names : List Str := ["_law_deck_here", "_law_many", "_law_letters", "_law_k", "_law_word", "_law_at", "_law_first", "_law_found"]
theorem sc_law_names : FnScope N_names ["_law_deck_here", "_law_many"] (defScope s_law_names) := ⟨rfl, rfl, rfl, by decide +kernel, rfl, by decide +kernel, by decide +kernel⟩
/-- a new list of names -/
def sp_names : Sp := fun vs H Q _ => ∃ (d c : Addr) (N : Int) (many : Nat), vs = [.ref d, .int (many : Int)] ∧ Deck H d c N ∧ N < 2 ^ 55 ∧ many ≤ 100 ∧
  ∀ H' p (zs : List Str), Keep d c H H' → Deck H' d c (N + 20) → H p = none → H' p = some (.lst (zs.map V.str)) → zs.length = many → (∀ z, z ∈ zs → Nm z) → Q (.ref p) H'
theorem ok_names {f f_law_draw f_law_pick : Addr} {fd fd_law_draw fd_law_pick : FuncData} {k : Nat} (F : Fun K "_law_names" "_law_names" s_law_names f fd) (G_law_draw : FnOk P w K mg base CX0 k f_law_draw fd_law_draw ["_law_deck_here", "_law_most"] sp_draw)
    (g_law_draw : mg "_law_draw" = some (.ref f_law_draw)) (K_law_draw : PySem.W.keepIn K (.ref f_law_draw) = true) (b_law_draw : Binds K fd_law_draw ["_law_deck_here", "_law_most"] [])
    (G_law_pick : FnOk P w K mg base CX0 k f_law_pick fd_law_pick ["_law_deck_here", "_law_some"] (sp_pick K))
    (g_law_pick : mg "_law_pick" = some (.ref f_law_pick)) (K_law_pick : PySem.W.keepIn K (.ref f_law_pick) = true) (b_law_pick : Binds K fd_law_pick ["_law_deck_here", "_law_some"] [])
    (mrange : mg "range" = none) (mlen : mg "len" = none) : FnOk P w K mg base CX0 (k + 1) f fd ["_law_deck_here", "_law_many"] sp_names := by
  have nd := sc_law_names.nd
  refine F.ok sc_law_names (fun vs H Q E h => ?_) (fun cdv A outer s H vs Q E hr h => ?_)
  · obtain ⟨d, c, N, many, rfl, _⟩ := h
    rfl
  obtain ⟨d, c, N, many, rfl, D, hN, hmany, q⟩ := h
  refine ⟨_, (pss_cons (ps_set (i := 2) nd rfl (.inr rfl) pe_str)
      (Evl.pss_cut (ps_set (i := 4) nd rfl (.inl rfl) (pe_op op_cat (pe_lst (pa_cons pe_str pa_nil)) (pe_lc (own := [("_law_k", 3)]) rfl nd (pi_range1 rfl mrange (pa_cons (pe_op op_add pe_int (pe_call G_law_draw hr (by rfl) g_law_draw K_law_draw b_law_draw .nil pass0 (pa_cons (pv 0) (pa_cons pe_int pa_nil)))) pa_nil)) (blkOk_by (N := N_names) (sc := defScope s_law_names) (by decide +kernel)) (fun _ _ _ _ _ => (pg_name (i := 3) nd rfl (Or.inl rfl))) (fun _ _ _ _ _ => pts_nil)
          (te := tCall (sp_pick K) [] E0 (tCons (tVar 0) (tCons (tVar 2) tNil)))
          (fun _ _ _ _ _ => (pe_call G_law_pick hr (by rfl) g_law_pick K_law_pick b_law_pick .nil pass0 (pa_cons (pv 0) (pa_cons (pv 2) pa_nil)))))))
      (pss_cons (ps_set (i := 5) nd rfl (.inl rfl) (pe_op op_add pe_int (pe_call G_law_draw hr (by rfl) g_law_draw K_law_draw b_law_draw .nil pass0 (pa_cons (pv 0) (pa_cons (pe_op op_sub (pe_callB call_len_seq (by rfl) mlen PySem.boot_len (pa_cons (pv 4) pa_nil)) pe_int) pa_nil)))))
      (pss_cons (ps_set (i := 6) nd rfl (.inl rfl) (pe_bm PySem.F.plainAttrs_str PySem.F.slot_str_index PySem.F.type_str_index mt_sindex (pv 2) (pa_cons (pe_ix ix_list (pv 4) (pv 5) (fun _ _ => rfl)) pa_nil)))
      (pss_cons (ps_set (i := 7) nd rfl (.inl rfl) (pe_lst pa_nil))
      (pss_cons (ps_for PassesOwn.never rfl (pi_range1 rfl mrange (pa_cons (pv 1) pa_nil)) (pg_name (i := 3) nd rfl (Or.inl rfl))
      (pss_cons (ps_asg (pe_ix ix_str (pv 2) (pe_op op_mod (pe_op op_add (pv 6) (pv 3)) pe_int) (fun _ _ => rfl)) (pg_sub (pv 4) (pv 5) set_list))
        (pss_one (ps_expr (pe_bm PySem.F.plainAttrs_list PySem.F.slot_list_append PySem.F.type_list_append mt_append (pv 7) (pa_cons (pe_join pe_str (pv 4)) pa_nil))))))
      (pss_one (ps_ret (pv 7))))))))), ?_⟩
  -- word = ['q'] + [..]
  refine ⟨fun σ' H' => ∃ wd cs, σ' = [some (.ref d), some (.int (many : Int)), some (.str L26), none, some (.ref wd), none, none, none] ∧ Keep d c H H' ∧ Deck H' d c (N + 8) ∧ H wd = none ∧ wd ≠ d ∧ wd ≠ c ∧ H' wd = some (.lst (sg (113 :: cs))) ∧ 1 ≤ cs.length ∧ cs.length ≤ 7 ∧ (∀ x, x ∈ cs → Low x), ?_, ?_⟩
  · refine ⟨Nat.le_of_lt (small1000 (show 1 ≤ 1000 by decide)), fun l nl => ?_⟩
    have sl := same_upd (o := .lst [.str "q"]) nl
    have D1 := D.same sl
    have hl := D.new nl
    have hl1 : upd H l (.lst [.str "q"]) l = some (.lst [.str "q"]) := upd_same
    refine ⟨.ref d, rfl, d, c, N, 7, rfl, D1, by omega, by decide, by decide, fun H1 r k1 D2 r0 r1 => ?_⟩
    obtain ⟨n, rfl⟩ := Int.eq_ofNat_of_zero_le r0
    refine ⟨1, (n : Int), rfl, rfl, 1 + (n : Int), rfl, by omega, by omega, fun B nB => ?_⟩
    have hB := D2.new nB
    have nlB : l ≠ B := ne_of_none (k1 _ _ hl.1 hl.2 hl1) nB
    have e1n : (1 + (n : Int)).toNat = n + 1 := by omega
    rw [e1n]
    refine lc_range (n := n + 1) (fun i H' => ∃ cs, cs.length = i ∧ (∀ x, x ∈ cs → Low x) ∧ H' B = some (.lst (sg cs)) ∧ (∀ b o, b ≠ d → b ≠ c → b ≠ B → H1 b = some o → H' b = some o) ∧ Deck H' d c (N + 1 + (i : Int))) ?_ ?_ ?_
    · refine ⟨[], rfl, fun x hx => (nomatch hx), upd_same, fun b o _ _ nb e => by rw [upd_ne nb]; exact e, ?_⟩
      exact (D2.same (same_upd nB)).mono (by omega)
    · rintro i H3 hi ⟨cs, hlen, hlow, hB3, k3, D3⟩
      refine ⟨rfl, yes_then ⟨.ref d, rfl, .str L26, rfl, .inr ⟨d, c, _, rfl, D3, by omega, fun H4 j k4 D4 hj => ?_⟩⟩⟩
      refine ⟨_, k4 _ _ hB.1 hB.2 hB3, ?_, cs ++ [97 + j], ?_, ?_, ?_, ?_, ?_⟩
      · rw [sg_length]
        exact small1000 (by omega)
      · rw [List.length_append, hlen]
        rfl
      · intro x hx
        rcases List.mem_append.mp hx with hx | hx
        · exact hlow x hx
        · rw [List.mem_singleton.mp hx]
          unfold Low
          omega
      · rw [upd_same, sg_snoc]
      · intro b o n1 n2 n3 e
        rw [upd_ne n3]
        exact k4 _ _ n1 n2 (k3 b o n1 n2 n3 e)
      · obtain ⟨cells, m, x, g1, g2, g3, g4, g5⟩ := D4
        refine ⟨cells, m, x, ?_, ?_, g3, g4, by omega⟩
        · rw [upd_ne hB.1.symm]
          exact g1
        · rw [upd_ne hB.2.symm]
          exact g2
    · rintro H3 ⟨cs, hlen, hlow, hB3, k3, D3⟩
      have hl3 := k3 _ _ hl.1 hl.2 nlB (k1 _ _ hl.1 hl.2 hl1)
      refine ⟨l, B, _, _, rfl, rfl, hl3, hB3, ?_, fun wd nwd => ?_⟩
      · rw [sg_length]
        exact small_le (show 1 + cs.length ≤ 1000 by omega)
      have hw := D3.new nwd
      have sw := same_upd (o := .lst ([.str "q"] ++ sg cs)) nwd
      refine ⟨wd, cs, rfl, ?_, (D3.same sw).mono (by omega), ?_, hw.1, hw.2, ?_, by omega, by omega, hlow⟩
      · intro b o n1 n2 e
        refine sw _ _ (k3 b o n1 n2 ?_ (k1 _ _ n1 n2 (sl _ _ e)))
        exact ne_of_none (k1 _ _ n1 n2 (sl _ _ e)) nB
      · cases e : H wd with
        | none => rfl
        | some o =>
          have nb := ne_of_none (k1 _ _ hw.1 hw.2 (sl _ _ e)) nB
          rw [k3 wd o hw.1 hw.2 nb (k1 _ _ hw.1 hw.2 (sl _ _ e))] at nwd
          cases nwd
      · exact upd_same
  rintro σ' H1 ⟨wd, cs, rfl, k1, D1, nwd, hwd, hwc, hw1, c1, c7, hlow⟩
  -- at, first
  refine ⟨.ref d, rfl, .ref wd, rfl, wd, _, rfl, .inl (.inl (.inl hw1)), _, 1, rfl, rfl, d, c, N + 8, ((sg (113 :: cs)).length : Int) - 1, rfl, D1, by omega, ?_, ?_, fun H2 r k2 D2 r0 r1 => ⟨_, _, rfl, rfl, ?_⟩⟩
  · rw [sg_length, List.length_cons]
    omega
  · rw [sg_length, List.length_cons]
    omega
  rw [sg_length, List.length_cons] at r1
  obtain ⟨j, rfl⟩ := Int.eq_ofNat_of_zero_le r0
  have hj : j < cs.length := by omega
  have hw2 := k2 _ _ hwd hwc hw1
  have hcj : (113 :: cs)[j + 1]? = some cs[j] := by
    rw [List.getElem?_cons_succ]
    exact List.getElem?_eq_getElem hj
  have hlj := hlow _ (List.getElem_mem hj)
  obtain ⟨m, hm, hm26⟩ : ∃ m, cs[j] = 97 + m ∧ m < 26 := ⟨cs[j] - 97, by unfold Low at hlj; omega, by unfold Low at hlj; omega⟩
  refine ⟨.str L26, rfl, rfl, .ref wd, rfl, .int (1 + (j : Int)), rfl, wd, _, 1 + (j : Int), .str (sgn (97 + m)), rfl, rfl, .inl (.inl hw2), at_of (j := j + 1) (by omega) (by rw [sg_get hcj, hm]), L26, sgn (97 + m), m, [], rfl, rfl, l26_occ m hm26, ?_⟩
  refine ⟨Nat.zero_le _, fun fo nfo => ?_⟩
  have sf := same_upd (o := .lst []) nfo
  have hfo := D2.new nfo
  have nwf : wd ≠ fo := ne_of_none hw2 nfo
  refine ⟨.int (many : Int), rfl, (many : Int), rfl, by omega, by omega, ?_⟩
  have emany : ((many : Int)).toNat = many := by omega
  rw [emany]
  refine for_range (n := many) (fun i σ H' => ∃ (y3 : Option V) (cs' : List Nat) (zs : List Str), σ = [some (.ref d), some (.int (many : Int)), some (.str L26), y3, some (.ref wd), some (.int (1 + (j : Int))), some (.int (m : Int)), some (.ref fo)] ∧ H' wd = some (.lst (sg (113 :: cs'))) ∧ cs'.length = cs.length ∧ (∀ x, x ∈ cs' → Low x) ∧
      H' fo = some (.lst (zs.map V.str)) ∧ zs.length = i ∧ (∀ z, z ∈ zs → Nm z) ∧ (∀ b o, b ≠ wd → b ≠ fo → H2 b = some o → H' b = some o)) ?_ ?_ ?_
  · refine ⟨none, cs, [], rfl, ?_, rfl, hlow, upd_same, rfl, fun z hz => (nomatch hz), fun b o n1 n2 e => by rw [upd_ne n2]; exact e⟩
    rw [upd_ne nwf]
    exact hw2
  · rintro i σ H3 hi ⟨y3, cs', zs, rfl, hw3, hl3, hlow3, hf3, hz3, hnm3, k3⟩
    have hmod : ∃ t : Nat, ((m : Int) + (0 + (i : Int))) % 26 = (t : Int) ∧ t < 26 := ⟨(m + i) % 26, by omega, Nat.mod_lt _ (by decide)⟩
    obtain ⟨t, ht, ht26⟩ := hmod
    refine ⟨.str L26, rfl, .int (m : Int), rfl, .int (0 + (i : Int)), rfl, _, _, rfl, rfl, _, 26, rfl, rfl, (show (0 : Int) < 26 by decide), L26, (t : Int), 97 + t, rfl, congrArg V.int ht, by rw [l26_len]; decide, atI_nat (l26_at t ht26), ?_⟩
    have hix : ixN (sg (113 :: cs')).length (1 + (j : Int)) = some (j + 1) := by
      unfold ixN
      rw [if_pos (by omega), if_pos (by rw [sg_length, List.length_cons]; omega)]
      exact congrArg some (by omega)
    refine ⟨.ref wd, rfl, .int (1 + (j : Int)), rfl, wd, _, 1 + (j : Int), j + 1, rfl, rfl, hw3, hix, ?_⟩
    have hset : (sg (113 :: cs')).set (j + 1) (.str (sgn (97 + t))) = sg (113 :: cs'.set j (97 + t)) := sg_set _ _ _
    have hw4 : upd H3 wd (.lst ((sg (113 :: cs')).set (j + 1) (.str (sgn (97 + t))))) wd = some (.lst (sg (113 :: cs'.set j (97 + t)))) := by rw [upd_same, hset]
    have hf4 : upd H3 wd (.lst ((sg (113 :: cs')).set (j + 1) (.str (sgn (97 + t))))) fo = some (.lst (zs.map V.str)) := by
      rw [upd_ne nwf.symm]
      exact hf3
    refine ⟨.ref fo, rfl, .inl ⟨rfl, _, .inl (.inl hf4)⟩, ⟨_, rfl⟩, .ref wd, rfl, Str.empty, wd, (113 :: cs'.set j (97 + t)).map sgn, rfl, rfl, .inl (.inl (.inl hw4)), ?_, fo, _, _, rfl, rfl, hf4, ?_, ?_⟩
    · rw [sgn_length, List.length_map, List.length_cons, List.length_set]
      show _ + _ * 0 ≤ _
      omega
    · rw [List.length_map]
      exact small1000 (by omega)
    · refine ⟨_, cs'.set j (97 + t), zs ++ [Txt.join Str.empty ((113 :: cs'.set j (97 + t)).map sgn)], rfl, ?_, by rw [List.length_set]; exact hl3, ?_, ?_, by rw [List.length_append, hz3]; rfl, ?_, ?_⟩
      · rw [upd_ne nwf]
        exact hw4
      · intro x hx
        rcases List.mem_or_eq_of_mem_set hx with hx | rfl
        · exact hlow3 x hx
        · unfold Low
          omega
      · rw [upd_same, List.map_append]
        rfl
      · intro z hz
        rcases List.mem_append.mp hz with hz | hz
        · exact hnm3 z hz
        · rw [List.mem_singleton.mp hz]
          refine nm_signs (cs := cs'.set j (97 + t)) (join_signs _) (by rw [List.length_set]; omega) ?_
          intro x hx
          rcases List.mem_or_eq_of_mem_set hx with hx | rfl
          · exact hlow3 x hx
          · unfold Low
            omega
      · intro b o n1 n2 e
        rw [upd_ne n2, upd_ne n1]
        exact k3 b o n1 n2 e
  · rintro σ H3 ⟨y3, cs', zs, rfl, hw3, hl3, hlow3, hf3, hz3, hnm3, k3⟩
    have nHfo : H fo = none := (k1.trans k2).free nfo hfo.1 hfo.2
    refine ⟨.ref fo, rfl, q H3 fo zs ?_ ?_ nHfo hf3 hz3 hnm3⟩
    · intro b o n1 n2 e
      exact k3 b o (ne_of_none e nwd) (ne_of_none e nHfo) (k2 _ _ n1 n2 (k1 _ _ n1 n2 e))
    · obtain ⟨cells, mm, x, e1, e2, e3, e4, e5⟩ := D2
      exact ⟨cells, mm, x, k3 _ _ hwd.symm hfo.1.symm e1, k3 _ _ hwc.symm hfo.2.symm e2, e3, e4, by omega⟩
end
end K5

namespace K5
open PySem PySem.Spec PyProof.Rows L2 GR
/-- all but the deck and the world is as it was -/
def KeepW (d c u : Addr) (H H' : Hp) : Prop := ∀ b o, b ≠ d → b ≠ c → b ≠ u → H b = some o → H' b = some o
theorem KeepW.refl {d c u : Addr} {H : Hp} : KeepW d c u H H := fun _ _ _ _ _ e => e
theorem KeepW.trans {d c u : Addr} {H H1 H2 : Hp} (a : KeepW d c u H H1) (b : KeepW d c u H1 H2) : KeepW d c u H H2 := fun x o h1 h2 h3 e => b x o h1 h2 h3 (a x o h1 h2 h3 e)
theorem Keep.w {d c : Addr} {H H' : Hp} (s : Keep d c H H') (u : Addr) : KeepW d c u H H' := fun b o h1 h2 _ e => s b o h1 h2 e
theorem KeepW.of {d c u : Addr} {H H' : Hp} (s : Same H H') : KeepW d c u H H' := fun b o _ _ _ e => s b o e
theorem Keep.dct {d c p : Addr} {H H' : Hp} {N : Int} {kvs : List (Key × V)} (s : Keep d c H H') (D : Deck H d c N) (h : H p = some (.dK kvs)) : H' p = some (.dK kvs) := by
  obtain ⟨cells, m, n, h1, h2, _⟩ := D
  exact s p _ (ne_of h h1 (fun z => by cases z)) (ne_of h h2 (fun z => by cases z)) h
def wK (nl : Addr) (L : Int) : List (Key × V) := [(.inr "names", .ref nl), (.inr "left", .int L)]
theorem wK_names (nl : Addr) (L : Int) : valV (wK nl L) (.inr "names") = some (.ref nl) := valV_pos rfl
theorem wK_left (nl : Addr) (L : Int) : valV (wK nl L) (.inr "left") = some (.int L) := (valV_neg (show ¬ ((.inr "names" : Key) = .inr "left") by decide)).trans (valV_pos rfl)
theorem wK_put (nl : Addr) (L M : Int) : putK (wK nl L) (.inr "left") (.int M) = wK nl M := by
  unfold putK wK
  simp
  decide
/-- the world at u: the list of names at nl, how many parts may come -/
structure Wo (H : Hp) (d c u nl : Addr) (zs : List Str) : Prop where
  dct : ∃ L : Int, H u = some (.dK (wK nl L))
  nms : H nl = some (.lst (zs.map V.str))
  nd : nl ≠ d
  nc : nl ≠ c
  len : zs.length = 6
  all : ∀ z, z ∈ zs → Nm z
  inn : ("in" : Str) ∈ zs
theorem Wo.ud {H : Hp} {d c u nl : Addr} {zs : List Str} {N : Int} (W : Wo H d c u nl zs) (D : Deck H d c N) : u ≠ d ∧ u ≠ c := by
  obtain ⟨cells, m, n, h1, h2, _⟩ := D
  obtain ⟨L, hL⟩ := W.dct
  exact ⟨ne_of hL h1 (fun z => by cases z), ne_of hL h2 (fun z => by cases z)⟩
theorem Wo.un {H : Hp} {d c u nl : Addr} {zs : List Str} (W : Wo H d c u nl zs) : nl ≠ u := by
  obtain ⟨L, hL⟩ := W.dct
  exact ne_of W.nms hL (fun z => by cases z)
theorem Wo.keep {H H' : Hp} {d c u nl : Addr} {zs : List Str} {N : Int} (W : Wo H d c u nl zs) (D : Deck H d c N) (k : Keep d c H H') : Wo H' d c u nl zs := by
  obtain ⟨L, hL⟩ := W.dct
  have := W.ud D
  exact ⟨⟨L, k _ _ this.1 this.2 hL⟩, k _ _ W.nd W.nc W.nms, W.nd, W.nc, W.len, W.all, W.inn⟩
theorem in_nm : Nm "in" := nm_lit (by decide)
abbrev sixes : List Str := ["in", "a", "int", "cell", "var", "rows"]
theorem six_nm : ∀ z, z ∈ sixes → Nm z := by
  intro z hz
  simp only [List.mem_cons, List.not_mem_nil, or_false] at hz
  rcases hz with rfl | rfl | rfl | rfl | rfl | rfl <;> exact nm_lit (by decide)
section
variable {P : Program} {w : World} {K : PySem.W.Frag} {mg : Str → Option Value} {base : Heap}
abbrev s_law_world : Stmt := topS 17
theorem sc_law_world : FnScope ["_law_deck_here", "_law_names_here"] ["_law_deck_here"] (defScope s_law_world) := ⟨rfl, rfl, rfl, by decide +kernel, rfl, by decide +kernel, by decide +kernel⟩
def sp_world : Sp := fun vs H Q _ => ∃ (d c : Addr) (N : Int), vs = [.ref d] ∧ Deck H d c N ∧ N < 2 ^ 54 ∧
  ∀ H' u nl zs, Keep d c H H' → Deck H' d c (N + 30) → H u = none → H nl = none → Wo H' d c u nl zs → Q (.ref u) H'
theorem ok_world {f f_law_draw f_law_pick f_law_names : Addr} {fd fd_law_draw fd_law_pick fd_law_names : FuncData} {k : Nat} (F : Fun K "_law_world" "_law_world" s_law_world f fd) (G_law_draw : FnOk P w K mg base CX0 k f_law_draw fd_law_draw ["_law_deck_here", "_law_most"] sp_draw)
    (g_law_draw : mg "_law_draw" = some (.ref f_law_draw)) (K_law_draw : PySem.W.keepIn K (.ref f_law_draw) = true) (b_law_draw : Binds K fd_law_draw ["_law_deck_here", "_law_most"] [])
    (G_law_pick : FnOk P w K mg base CX0 k f_law_pick fd_law_pick ["_law_deck_here", "_law_some"] (sp_pick K))
    (g_law_pick : mg "_law_pick" = some (.ref f_law_pick)) (K_law_pick : PySem.W.keepIn K (.ref f_law_pick) = true) (b_law_pick : Binds K fd_law_pick ["_law_deck_here", "_law_some"] [])
    (G_law_names : FnOk P w K mg base CX0 k f_law_names fd_law_names ["_law_deck_here", "_law_many"] sp_names)
    (g_law_names : mg "_law_names" = some (.ref f_law_names)) (K_law_names : PySem.W.keepIn K (.ref f_law_names) = true) (b_law_names : Binds K fd_law_names ["_law_deck_here", "_law_many"] []) : FnOk P w K mg base CX0 (k + 1) f fd ["_law_deck_here"] sp_world := by
  have nd := sc_law_world.nd
  refine F.ok sc_law_world (fun vs H Q E h => ?_) (fun cdv A outer s H vs Q E hr h => ?_)
  · obtain ⟨d, c, N, rfl, _⟩ := h
    rfl
  obtain ⟨d, c, N, rfl, D, hN, q⟩ := h
  refine ⟨_, (pss_cons (ps_set (i := 1) nd rfl (.inl rfl) (pe_call G_law_names hr (by rfl) g_law_names K_law_names b_law_names .nil pass0 (pa_cons (pv 0) (pa_cons pe_int pa_nil))))
      (pss_cons (ps_asg (pe_call G_law_pick hr (by rfl) g_law_pick K_law_pick b_law_pick .nil pass0 (pa_cons (pv 0) (pa_cons (pe_lst (pa_cons pe_str (pa_cons pe_str (pa_cons pe_str (pa_cons pe_str (pa_cons pe_str (pa_cons pe_str pa_nil))))))) pa_nil))) (pg_sub (pv 1) (pe_call G_law_draw hr (by rfl) g_law_draw K_law_draw b_law_draw .nil pass0 (pa_cons (pv 0) (pa_cons pe_int pa_nil))) set_list))
      (pss_one (ps_ret (pe_disp (pps_cons pe_str (pe_op op_cat (pv 1) (pe_lst (pa_cons pe_str pa_nil))) (pps_cons pe_str pe_int pps_nil)) (by decide) rfl (by simp) (by decide)))))), ?_⟩
  refine ⟨.ref d, rfl, d, c, N, 5, rfl, D, by omega, by decide, fun H1 p zs k1 D1 np hp hlen hnm => ?_⟩
  have hpn : p ≠ d ∧ p ≠ c := by
    obtain ⟨cells, m, n, h1, h2, _⟩ := D
    exact ⟨(ne_of_none h1 np).symm, (ne_of_none h2 np).symm⟩
  refine ⟨.ref d, rfl, small_le (show 6 ≤ 1000 by decide), fun l nl => ?_⟩
  have sl := same_upd (o := .lst [.str "in", .str "a", .str "int", .str "cell", .str "var", .str "rows"]) nl
  have hl := D1.new nl
  have hl1 : SqL K (upd H1 l (.lst [.str "in", .str "a", .str "int", .str "cell", .str "var", .str "rows"])) l (sixes.map V.str) := .inl (.inl upd_same)
  refine .inl ⟨d, c, l, N + 20, _, rfl, D1.same sl, by omega, hl1, List.cons_ne_nil _ _, by decide, hl.1, hl.2, fun H2 v k2 D2 hv => ?_⟩
  obtain ⟨z, hz, rfl⟩ := List.mem_map.mp hv
  refine ⟨.ref p, rfl, .ref d, rfl, d, c, N + 20 + 1, 5, rfl, D2, by omega, by decide, by decide, fun H3 r k3 D3 r0 r1 => ?_⟩
  obtain ⟨j, rfl⟩ := Int.eq_ofNat_of_zero_le r0
  have hj : j < 5 := by omega
  have hp3 := k3 _ _ hpn.1 hpn.2 (k2 _ _ hpn.1 hpn.2 (sl _ _ hp))
  refine ⟨p, _, (j : Int), j, rfl, rfl, hp3, ?_, ?_⟩
  · unfold ixN
    rw [if_pos (by omega), List.length_map, hlen, if_pos (by omega)]
    exact congrArg some (by omega)
  rw [← List.map_set]
  have k03 : Keep d c H H3 := ((k1.trans (Keep.of sl)).trans k2).trans k3
  have k4 : Keep d c H (upd H3 p (.lst ((zs.set j z).map V.str))) := fun b o n1 n2 e => by
    rw [upd_ne (ne_of_none e np)]
    exact k03 b o n1 n2 e
  have D4 : Deck (upd H3 p (.lst ((zs.set j z).map V.str))) d c (N + 30) := by
    obtain ⟨cells, mm, x, e1, e2, e3, e4, e5⟩ := D3
    refine ⟨cells, mm, x, ?_, ?_, e3, e4, by omega⟩
    · rw [upd_ne hpn.1.symm]
      exact e1
    · rw [upd_ne hpn.2.symm]
      exact e2
  have hp4 : upd H3 p (.lst ((zs.set j z).map V.str)) p = some (.lst ((zs.set j z).map V.str)) := upd_same
  revert k4 D4 hp4
  generalize upd H3 p (.lst ((zs.set j z).map V.str)) = H4
  intro k4 D4 hp4
  intro u nu
  have su := same_upd (o := .dK []) nu
  have hu := D4.new nu
  refine ⟨.ref p, rfl, small_le (show 1 ≤ 1000 by decide), fun l2 nl2 => ?_⟩
  have s2 := same_upd (o := .lst [.str "in"]) nl2
  refine ⟨p, l2, _, _, rfl, rfl, s2 _ _ (su _ _ hp4), upd_same, ?_, fun x nx => ?_⟩
  · rw [List.length_map, List.length_set, hlen]
    exact small_le (show 6 ≤ 1000 by decide)
  have s3 := same_upd (o := .lst ((zs.set j z).map V.str ++ [.str "in"])) nx
  have u3 := s3 _ _ (s2 _ _ (show upd H4 u (.dK []) u = _ from upd_same))
  have hx := D4.new (su.free (s2.free nx))
  have n3 : H u = none := k4.free nu hu.1 hu.2
  have nx3 : H x = none := k4.free (su.free (s2.free nx)) hx.1 hx.2
  have hxu : x ≠ u := (ne_of_none (s2 _ _ (show upd H4 u (.dK []) u = _ from upd_same)) nx).symm
  refine ⟨u3, wK x 30, rfl, (show 2 ≤ 15 by decide), q _ u x (zs.set j z ++ [("in" : Str)]) ?_ ?_ n3 nx3 ?_⟩
  · intro b o n1 n2 e
    rw [upd_ne (ne_of_none e n3)]
    exact s3 _ _ (s2 _ _ (su _ _ (k4 _ _ n1 n2 e)))
  · obtain ⟨cells, mm, y, e1, e2, e3, e4, e5⟩ := D4
    refine ⟨cells, mm, y, ?_, ?_, e3, e4, e5⟩
    · rw [upd_ne hu.1.symm]
      exact s3 _ _ (s2 _ _ (su _ _ e1))
    · rw [upd_ne hu.2.symm]
      exact s3 _ _ (s2 _ _ (su _ _ e2))
  · refine ⟨⟨30, upd_same⟩, ?_, hx.1, hx.2, ?_, ?_, ?_⟩
    · rw [upd_ne hxu, List.map_append]
      exact upd_same
    · rw [List.length_append, List.length_set, hlen]
      rfl
    · intro y hy
      rcases List.mem_append.mp hy with hy | hy
      · rcases List.mem_or_eq_of_mem_set hy with hy | rfl
        · exact hnm y hy
        · exact six_nm _ hz
      · rw [List.mem_singleton.mp hy]
        exact in_nm
    · exact List.mem_append_right _ (List.mem_singleton.mpr rfl)
end
end K5

namespace K5
open PySem PySem.Spec PyProof.Rows L2 GR
abbrev aggs : List (Str × Nat) := [("count", 2), ("sum", 3), ("most", 4), ("first", 3)]
abbrev opws : List Str := ["+", "-", "*", "<", "=", "at"]
/-- one that contains none -/
inductive Leaf (zs : List Str) : PyData → Prop
  | int (i : Int) : -(10 ^ 18) ≤ i → i ≤ 10 ^ 18 → Leaf zs (.tuple [.str "int", .int i])
  | let_ (i : Int) : 0 ≤ i → i ≤ 9999 → Leaf zs (.tuple [.str "let", .int i])
  | key : Leaf zs (.tuple [.str "key"])
  | var (z : Str) : z ∈ zs → Leaf zs (.tuple [.str "var", .str z])
/-- an expression of depth n at most; its names are among zs -/
inductive Ex (zs : List Str) : Nat → PyData → Prop
  | leaf (n : Nat) (x : PyData) : Leaf zs x → Ex zs (n + 1) x
  | cell (n : Nat) (t v : Str) (x : PyData) : t ∈ zs → v ∈ zs → Ex zs n x → Ex zs (n + 1) (.tuple [.str "cell", .str t, x, .str v])
  | op (n : Nat) (o : Str) (x y : PyData) : o ∈ opws → Ex zs n x → Ex zs n y → Ex zs (n + 1) (.tuple [.str o, x, y])
  | iff (n : Nat) (x y z : PyData) : Ex zs n x → Ex zs n y → Ex zs n z → Ex zs (n + 1) (.tuple [.str "if", x, y, z])
  | agg (n : Nat) (o t : Str) (xs ys : List PyData) : (o, ys.length) ∈ aggs → t ∈ zs → xs.length ≤ 2 → (∀ x, x ∈ xs → Ex zs n x) → (∀ y, y ∈ ys → Ex zs n y) → Ex zs (n + 1) (.tuple (.str o :: .str t :: .tuple xs :: ys))
theorem Ex.mono {zs : List Str} : ∀ {n m : Nat} {x : PyData}, Ex zs n x → n ≤ m → Ex zs m x := by
  intro n m x h
  induction h generalizing m with
  | leaf n x h =>
    intro hm
    obtain ⟨k, rfl⟩ : ∃ k, m = k + 1 := ⟨m - 1, by omega⟩
    exact .leaf k x h
  | cell n t v x h1 h2 h3 ih =>
    intro hm
    obtain ⟨k, rfl⟩ : ∃ k, m = k + 1 := ⟨m - 1, by omega⟩
    exact .cell k t v x h1 h2 (ih (by omega))
  | op n o x y h1 h2 h3 ih1 ih2 =>
    intro hm
    obtain ⟨k, rfl⟩ : ∃ k, m = k + 1 := ⟨m - 1, by omega⟩
    exact .op k o x y h1 (ih1 (by omega)) (ih2 (by omega))
  | iff n x y z h1 h2 h3 ih1 ih2 ih3 =>
    intro hm
    obtain ⟨k, rfl⟩ : ∃ k, m = k + 1 := ⟨m - 1, by omega⟩
    exact .iff k x y z (ih1 (by omega)) (ih2 (by omega)) (ih3 (by omega))
  | agg n o t xs ys h1 h2 h3 h4 h5 ih1 ih2 =>
    intro hm
    obtain ⟨k, rfl⟩ : ∃ k, m = k + 1 := ⟨m - 1, by omega⟩
    exact .agg k o t xs ys h1 h2 h3 (fun x hx => ih1 x hx (by omega)) (fun y hy => ih2 y hy (by omega))
/-! ### data of tuples, texts and ints -/
mutual
/-- no lists in it -/
def flatD : PyData → Bool
  | .tuple ds => flatDs ds
  | .int _ => true
  | .str _ => true
  | .bool _ => true
  | .none => true
  | _ => false
def flatDs : List PyData → Bool
  | [] => true
  | d :: ds => flatD d && flatDs ds
end
theorem flatDs_of : ∀ {ds : List PyData}, (∀ d, d ∈ ds → flatD d = true) → flatDs ds = true
  | [], _ => by rw [flatDs]
  | d :: ds, h => by
    rw [flatDs, h d List.mem_cons_self, flatDs_of fun x hx => h x (List.mem_cons_of_mem _ hx)]
    rfl
theorem Ex.flat {zs : List Str} : ∀ {n : Nat} {x : PyData}, Ex zs n x → flatD x = true := by
  intro n x h
  induction h with
  | leaf n x h => cases h <;> simp only [flatD, flatDs, Bool.and_self]
  | cell n t v x h1 h2 h3 ih => simp only [flatD, flatDs, ih, Bool.and_self]
  | op n o x y h1 h2 h3 ih1 ih2 => simp only [flatD, flatDs, ih1, ih2, Bool.and_self]
  | iff n x y z h1 h2 h3 ih1 ih2 ih3 => simp only [flatD, flatDs, ih1, ih2, ih3, Bool.and_self]
  | agg n o t xs ys h1 h2 h3 h4 h5 ih1 ih2 => simp only [flatD, flatDs, flatDs_of ih1, flatDs_of ih2, Bool.and_self]
/-- the tuples stay -/
def KeepT (H H' : Hp) : Prop := (∀ b xs, H b = some (.tup xs) → H' b = some (.tup xs)) ∧ ∀ b o xs, H b = some (.frz o (.tup xs)) → H' b = some (.frz o (.tup xs))
theorem KeepT.of {H H' : Hp} (s : Same H H') : KeepT H H' := ⟨fun b xs e => s b _ e, fun b o xs e => s b _ e⟩
theorem KeepT.refl {H : Hp} : KeepT H H := ⟨fun _ _ e => e, fun _ _ _ e => e⟩
theorem KeepT.trans {H H1 H2 : Hp} (a : KeepT H H1) (b : KeepT H1 H2) : KeepT H H2 := ⟨fun x xs e => b.1 x xs (a.1 x xs e), fun x o xs e => b.2 x o xs (a.2 x o xs e)⟩
theorem KeepT.seqt {K : PySem.W.Frag} {H H' : Hp} (s : KeepT H H') {a : Addr} {xs : List V} (h : SqT K H a xs) : SqT K H' a xs := by
  rcases h with (h | ⟨o, h⟩) | h
  · exact .inl (.inl (s.1 _ _ h))
  · exact .inl (.inr ⟨o, s.2 _ _ _ h⟩)
  · exact .inr h
theorem KeepT.upd {H : Hp} {a : Addr} {o : HO} (ha : ∀ xs, H a ≠ some (.tup xs)) (hb : ∀ u xs, H a ≠ some (.frz u (.tup xs))) : KeepT H (L2.upd H a o) := by
  refine ⟨fun b xs e => ?_, fun b u xs e => ?_⟩
  · have : b ≠ a := by
      rintro rfl
      exact ha xs e
    rw [upd_ne this]
    exact e
  · have : b ≠ a := by
      rintro rfl
      exact hb u xs e
    rw [upd_ne this]
    exact e
theorem KeepT.lst {H : Hp} {a : Addr} {ys : List V} {o : HO} (h : H a = some (.lst ys)) : KeepT H (L2.upd H a o) := KeepT.upd (fun xs e => by rw [h] at e; cases e) (fun u xs e => by rw [h] at e; cases e)
theorem KeepT.dk {H : Hp} {a : Addr} {ys : List (Key × V)} {o : HO} (h : H a = some (.dK ys)) : KeepT H (L2.upd H a o) := KeepT.upd (fun xs e => by rw [h] at e; cases e) (fun u xs e => by rw [h] at e; cases e)
theorem KeepT.non {H : Hp} {a : Addr} {o : HO} (h : H a = none) : KeepT H (L2.upd H a o) := KeepT.of (same_upd h)
/-- what keeps all but the deck and the world keeps the tuples -/
theorem KeepW.t {H H' : Hp} {d c u nl : Addr} {zs : List Str} {N : Int} (k : KeepW d c u H H') (D : Deck H d c N) (W : Wo H d c u nl zs) : KeepT H H' := by
  obtain ⟨cells, m, n, h1, h2, _⟩ := D
  obtain ⟨L, hL⟩ := W.dct
  exact ⟨fun b xs e => k _ _ (ne_of e h1 (fun z => by cases z)) (ne_of e h2 (fun z => by cases z)) (ne_of e hL (fun z => by cases z)) e,
    fun b o xs e => k _ _ (ne_of e h1 (fun z => by cases z)) (ne_of e h2 (fun z => by cases z)) (ne_of e hL (fun z => by cases z)) e⟩
theorem Keep.t {H H' : Hp} {d c : Addr} {N : Int} (k : Keep d c H H') (D : Deck H d c N) : KeepT H H' := by
  obtain ⟨cells, m, n, h1, h2, _⟩ := D
  exact ⟨fun b xs e => k _ _ (ne_of e h1 (fun z => by cases z)) (ne_of e h2 (fun z => by cases z)) e,
    fun b o xs e => k _ _ (ne_of e h1 (fun z => by cases z)) (ne_of e h2 (fun z => by cases z)) e⟩
mutual
theorem dp_keep {K : PySem.W.Frag} {H H' : Hp} (s : KeepT H H') : ∀ (d : PyData) (v : V), flatD d = true → Dp K H v d → Dp K H' v d
  | .none, _, _, h => by
    cases h
    exact .non
  | .bool b, _, _, h => by
    cases h
    exact .bl b
  | .int i, _, _, h => by
    cases h
    exact .int i
  | .str z, _, _, h => by
    cases h
    exact .str z
  | .tuple ds, _, hf, h => by
    cases h with
    | tup h1 h2 => exact .tup (s.seqt h1) (dp_keepAll s ds _ (by rw [flatD] at hf; exact hf) h2)
  | .list ds, _, hf, h => by simp only [flatD, Bool.false_eq_true] at hf
  | .dict ds, _, hf, h => by cases h
theorem dp_keepAll {K : PySem.W.Frag} {H H' : Hp} (s : KeepT H H') : ∀ (ds : List PyData) (vs : List V), flatDs ds = true → DpAll K H vs ds → DpAll K H' vs ds
  | [], _, _, h => by
    cases h
    exact .nil
  | d :: ds, _, hf, h => by
    rw [flatDs, Bool.and_eq_true] at hf
    cases h with
    | cons h1 h2 => exact .cons (dp_keep s d _ hf.1 h1) (dp_keepAll s ds _ hf.2 h2)
end
end K5

namespace K5
open PySem PySem.Spec PyProof.Rows L2 GR
theorem noSl_str {z : Str} {pos : Pos} {k} : NoSl (.Constant (.str z) k pos) := fun _ _ => rfl
theorem dp_two {K : PySem.W.Frag} {H : Hp} {p : Addr} {a : Str} {v : V} {x : PyData} (h : Dp K H v x) (np : H p = none) : Dp K (upd H p (.tup [.str a, v])) (.ref p) (.tuple [.str a, x]) ∨ flatD x = false := by
  cases hf : flatD x with
  | false => exact .inr rfl
  | true => exact .inl (.tup (.inl (.inl upd_same)) (.cons (.str a) (.cons (dp_keep (KeepT.non np) x v hf h) .nil)))
section
variable {P : Program} {w : World} {K : PySem.W.Frag} {mg : Str → Option Value} {base : Heap}
abbrev s_law_leaf : Stmt := topS 18
theorem sc_law_leaf : FnScope ["_law_deck_here", "_law_world_here", "_law_way", "_law_some"] ["_law_deck_here", "_law_world_here"] (defScope s_law_leaf) := ⟨rfl, rfl, rfl, by decide +kernel, rfl, by decide +kernel, by decide +kernel⟩
def sp_leaf (K : PySem.W.Frag) : Sp := fun vs H Q _ => ∃ (d c u nl : Addr) (N : Int) (zs : List Str), vs = [.ref d, .ref u] ∧ Deck H d c N ∧ N < 2 ^ 59 ∧ Wo H d c u nl zs ∧
  ∀ H' v x, Keep d c H H' → Deck H' d c (N + 6) → Leaf zs x → Dp K H' v x → Q v H'
theorem ok_leaf {f f_law_draw f_law_pick : Addr} {fd fd_law_draw fd_law_pick : FuncData} {k : Nat} (F : Fun K "_law_leaf" "_law_leaf" s_law_leaf f fd) (G_law_draw : FnOk P w K mg base CX0 k f_law_draw fd_law_draw ["_law_deck_here", "_law_most"] sp_draw)
    (g_law_draw : mg "_law_draw" = some (.ref f_law_draw)) (K_law_draw : PySem.W.keepIn K (.ref f_law_draw) = true) (b_law_draw : Binds K fd_law_draw ["_law_deck_here", "_law_most"] [])
    (G_law_pick : FnOk P w K mg base CX0 k f_law_pick fd_law_pick ["_law_deck_here", "_law_some"] (sp_pick K))
    (g_law_pick : mg "_law_pick" = some (.ref f_law_pick)) (K_law_pick : PySem.W.keepIn K (.ref f_law_pick) = true) (b_law_pick : Binds K fd_law_pick ["_law_deck_here", "_law_some"] []) :
    FnOk P w K mg base CX0 (k + 1) f fd ["_law_deck_here", "_law_world_here"] (sp_leaf K) := by
  have nd := sc_law_leaf.nd
  refine F.ok sc_law_leaf (fun vs H Q E h => ?_) (fun cdv A outer s H vs Q E hr h => ?_)
  · obtain ⟨d, c, u, nl, N, zs, rfl, _⟩ := h
    rfl
  obtain ⟨d, c, u, nl, N, zs, rfl, D, hN, W, q⟩ := h
  have hu1 : (A.deeper (envOfC "_law_leaf" (defScope s_law_leaf) s.heap.objs.size f cdv)).units + 1 < cLine := by
    have := hr.units
    omega
  refine ⟨_, (pss_cons (ps_set (i := 2) nd rfl (.inl rfl) (pe_call G_law_draw hr (by rfl) g_law_draw K_law_draw b_law_draw .nil pass0 (pa_cons (pv 0) (pa_cons pe_int pa_nil))))
      (pss_cons (ps_if (pt_cmpR op_lt (pv 2) pe_int (nomark _))
      (pss_cons (ps_set (i := 3) nd rfl (.inl rfl) (pe_lst (pa_cons (pe_op op_sub (pe_call G_law_draw hr (by rfl) g_law_draw K_law_draw b_law_draw .nil pass0 (pa_cons (pv 0) (pa_cons pe_int pa_nil))) pe_int) (pa_cons pe_int (pa_cons (pe_op op_pow pe_int pe_int) (pa_cons (pe_op op_sub pe_int (pe_op op_pow pe_int pe_int)) (pa_cons (pe_op op_mul (pe_call G_law_draw hr (by rfl) g_law_draw K_law_draw b_law_draw .nil pass0 (pa_cons (pv 0) (pa_cons (pe_op op_pow pe_int pe_int) pa_nil))) (pe_op op_pow pe_int pe_int)) pa_nil)))))))
        (pss_one (ps_ret (pe_tup (pa_cons pe_str (pa_cons (pe_call G_law_pick hr (by rfl) g_law_pick K_law_pick b_law_pick .nil pass0 (pa_cons (pv 0) (pa_cons (pv 3) pa_nil))) pa_nil))))))
      pss_nil)
      (pss_cons (ps_if (pt_cmpR op_eq (pv 2) pe_int (nomark _))
      (pss_one (ps_ret (pe_tup (pa_cons pe_str (pa_cons (pe_call G_law_pick hr (by rfl) g_law_pick K_law_pick b_law_pick .nil pass0 (pa_cons (pv 0) (pa_cons (pe_lst (pa_cons pe_int (pa_cons pe_int (pa_cons (pe_call G_law_draw hr (by rfl) g_law_draw K_law_draw b_law_draw .nil pass0 (pa_cons (pv 0) (pa_cons pe_int pa_nil))) (pa_cons pe_int pa_nil))))) pa_nil))) pa_nil)))))
      pss_nil)
      (pss_one (ps_ret (pe_ifExp (pt_cmpR op_eq (pv 2) pe_int (nomark _)) (pe_tup (pa_cons pe_str pa_nil)) (pe_tup (pa_cons pe_str (pa_cons (pe_call G_law_pick hr (by rfl) g_law_pick K_law_pick b_law_pick .nil pass0 (pa_cons (pv 0) (pa_cons (pe_dget hu1 (pv 1) pe_str noSl_str) pa_nil))) pa_nil))))))))), ?_⟩
  -- a tuple of a word and an int, of two texts
  have done : ∀ (H1 : Hp) (M : Int) (a : Str) (v : V) (x : PyData), Keep d c H H1 → Deck H1 d c M → M ≤ N + 6 → Leaf zs (.tuple [.str a, x]) → Dp K H1 v x → flatD x = true → 2 ≤ sizeLine ∧ ∀ p, H1 p = none → Q (.ref p) (upd H1 p (.tup [.str a, v])) := by
    intro H1 M a v x k1 D1 hM hx hv hf
    refine ⟨le2, fun p np => ?_⟩
    have s := same_upd (o := .tup [.str a, v]) np
    refine q _ _ _ (k1.trans (Keep.of s)) ((D1.same s).mono hM) hx ?_
    rcases dp_two (a := a) hv np with h | h
    · exact h
    · rw [hf] at h
      cases h
  refine ⟨.ref d, rfl, d, c, N, 6, rfl, D, by omega, by decide, by decide, fun H1 way k1 D1 w0 w1 => ?_⟩
  refine ⟨.int way, rfl, _, _, rfl, rfl, _, rfl, ite2 (fun e1 => ?_) (fun e1 => ?_)⟩
  · refine ⟨.ref d, rfl, d, c, N + 1, 12, rfl, D1, by omega, by decide, by decide, fun H2 r2 k2 D2 r20 r21 => ?_⟩
    refine ⟨_, _, rfl, rfl, _, _, rfl, rfl, ⟨by decide, by decide, by decide⟩, _, _, rfl, rfl, ⟨by decide, by decide, by decide⟩, _, _, rfl, rfl, .ref d, rfl, _, _, rfl, rfl, ⟨by decide, by decide, by decide⟩, d, c, N + 1 + 1, 10 ^ 9, rfl, D2, by omega, by decide, by decide, fun H3 r3 k3 D3 r30 r31 => ?_⟩
    refine ⟨_, _, rfl, rfl, ⟨by decide, by decide, by decide⟩, r3, 10 ^ 9, rfl, rfl, .inr ⟨by decide, by decide⟩, small_le (show 5 ≤ 1000 by decide), fun l nl => ?_⟩
    have sl := same_upd (o := .lst [.int (r2 - 4), .int 0, .int (10 ^ 18), .int (0 - 10 ^ 18), .int (r3 * 10 ^ 9)]) nl
    have hl := D3.new nl
    have kk := ((k1.trans k2).trans k3).trans (Keep.of sl)
    have D4 := D3.same sl
    have hl1 : SqL K (upd H3 l (.lst [.int (r2 - 4), .int 0, .int (10 ^ 18), .int (0 - 10 ^ 18), .int (r3 * 10 ^ 9)])) l [.int (r2 - 4), .int 0, .int (10 ^ 18), .int (0 - 10 ^ 18), .int (r3 * 10 ^ 9)] := .inl (.inl upd_same)
    refine ⟨.ref d, rfl, .ref l, rfl, .inl ⟨d, c, l, N + 1 + 1 + 1, _, rfl, D4, by omega, hl1, List.cons_ne_nil _ _, (show 5 ≤ 1000 by decide), hl.1, hl.2, fun H5 v k5 D5 hv => ?_⟩⟩
    have hi : ∃ i : Int, v = .int i ∧ -(10 ^ 18) ≤ i ∧ i ≤ 10 ^ 18 := by
      simp only [List.mem_cons, List.not_mem_nil, or_false] at hv
      rcases hv with rfl | rfl | rfl | rfl | rfl
      · exact ⟨_, rfl, by omega, by omega⟩
      · exact ⟨_, rfl, by omega, by omega⟩
      · exact ⟨_, rfl, by omega, by omega⟩
      · exact ⟨_, rfl, by omega, by omega⟩
      · exact ⟨_, rfl, by omega, by omega⟩
    obtain ⟨i, rfl, i0, i1⟩ := hi
    exact done H5 _ "int" _ _ (kk.trans k5) D5 (by omega) (.int i i0 i1) (.int i) rfl
  · refine ⟨.int way, rfl, rfl, _, rfl, ite2 (fun e2 => ?_) (fun e2 => ?_)⟩
    · refine ⟨.ref d, rfl, .ref d, rfl, d, c, N + 1, 400, rfl, D1, by omega, by decide, by decide, fun H2 r2 k2 D2 r20 r21 => ?_⟩
      refine ⟨small_le (show 4 ≤ 1000 by decide), fun l nl => ?_⟩
      have sl := same_upd (o := .lst [.int 0, .int 1, .int r2, .int 9999]) nl
      have hl := D2.new nl
      have kk := (k1.trans k2).trans (Keep.of sl)
      have D4 := D2.same sl
      have hl1 : SqL K (upd H2 l (.lst [.int 0, .int 1, .int r2, .int 9999])) l [.int 0, .int 1, .int r2, .int 9999] := .inl (.inl upd_same)
      refine .inl ⟨d, c, l, N + 1 + 1, _, rfl, D4, by omega, hl1, List.cons_ne_nil _ _, (show 4 ≤ 1000 by decide), hl.1, hl.2, fun H5 v k5 D5 hv => ?_⟩
      have hi : ∃ i : Int, v = .int i ∧ 0 ≤ i ∧ i ≤ 9999 := by
        simp only [List.mem_cons, List.not_mem_nil, or_false] at hv
        rcases hv with rfl | rfl | rfl | rfl <;> exact ⟨_, rfl, by omega, by omega⟩
      obtain ⟨i, rfl, i0, i1⟩ := hi
      exact done H5 _ "let" _ _ (kk.trans k5) D5 (by omega) (.let_ i i0 i1) (.int i) rfl
    · refine ⟨.int way, rfl, rfl, _, rfl, ite2 (fun e3 => ?_) (fun e3 => ?_)⟩
      · refine ⟨Nat.le_trans (by decide) le2, fun p np => ?_⟩
        have s := same_upd (o := .tup [.str "key"]) np
        exact q _ _ _ (k1.trans (Keep.of s)) ((D1.same s).mono (by omega)) .key (.tup (.inl (.inl upd_same)) (.cons (.str "key") .nil))
      · have W1 := W.keep D k1
        obtain ⟨L, hL⟩ := W1.dct
        refine ⟨.ref d, rfl, .ref u, rfl, u, .ref nl, rfl, ?_, ?_⟩
        · rw [← wK_names nl L]
          exact DGet.k (k := .inr "names") hL
        · refine .inl ⟨d, c, nl, N + 1, _, rfl, D1, by omega, .inl (.inl W1.nms), ?_, ?_, W1.nd, W1.nc, fun H5 v k5 D5 hv => ?_⟩
          · intro e
            have := congrArg List.length e
            rw [List.length_map, W1.len] at this
            cases this
          · rw [List.length_map, W1.len]
            decide
          · obtain ⟨z, hz, rfl⟩ := List.mem_map.mp hv
            exact done H5 _ "var" _ _ (k1.trans k5) D5 (by omega) (.var z hz) (.str z) rfl
end
end K5

namespace K5
open PySem PySem.Spec PyProof.Rows L2 GR
/-- the draws of a term of depth n, at most -/
def dr : Nat → Int
  | 0 => 10
  | n + 1 => 20 + 6 * dr n
theorem dr_pos : ∀ n, 10 ≤ dr n
  | 0 => by simp only [dr]; omega
  | n + 1 => by
    have := dr_pos n
    simp only [dr]
    omega
theorem Wo.upd {H : Hp} {d c u nl a : Addr} {zs : List Str} {o : HO} (W : Wo H d c u nl zs) (h1 : a ≠ u) (h2 : a ≠ nl) : Wo (L2.upd H a o) d c u nl zs := by
  obtain ⟨L, hL⟩ := W.dct
  refine ⟨⟨L, ?_⟩, ?_, W.nd, W.nc, W.len, W.all, W.inn⟩
  · rw [upd_ne h1.symm]
    exact hL
  · rw [upd_ne h2.symm]
    exact W.nms
theorem Wo.new {H : Hp} {d c u nl a : Addr} {zs : List Str} (W : Wo H d c u nl zs) (na : H a = none) : a ≠ u ∧ a ≠ nl := by
  obtain ⟨L, hL⟩ := W.dct
  exact ⟨(ne_of_none hL na).symm, (ne_of_none W.nms na).symm⟩
theorem Wo.same {H H' : Hp} {d c u nl : Addr} {zs : List Str} (W : Wo H d c u nl zs) (s : Same H H') : Wo H' d c u nl zs := by
  obtain ⟨L, hL⟩ := W.dct
  exact ⟨⟨L, s _ _ hL⟩, s _ _ W.nms, W.nd, W.nc, W.len, W.all, W.inn⟩
theorem Deck.upd {H : Hp} {d c a : Addr} {N : Int} {o : HO} (D : Deck H d c N) (h1 : a ≠ d) (h2 : a ≠ c) : Deck (L2.upd H a o) d c N := by
  obtain ⟨cells, m, n, g1, g2, g3⟩ := D
  refine ⟨cells, m, n, ?_, ?_, g3⟩
  · rw [upd_ne h1.symm]
    exact g1
  · rw [upd_ne h2.symm]
    exact g2
theorem dpAll_len {K : PySem.W.Frag} {H : Hp} : ∀ {vs : List V} {ds : List PyData}, DpAll K H vs ds → vs.length = ds.length
  | [], _, h => by
    cases h
    rfl
  | v :: vs, _, h => by
    cases h with
    | cons _ h2 => rw [List.length_cons, List.length_cons, dpAll_len h2]
theorem dpAll_append {K : PySem.W.Frag} {H : Hp} : ∀ {vs us : List V} {ds es : List PyData}, DpAll K H vs ds → DpAll K H us es → DpAll K H (vs ++ us) (ds ++ es)
  | [], _, _, _, h, g => by
    cases h
    exact g
  | v :: vs, _, _, _, h, g => by
    cases h with
    | cons h1 h2 => exact .cons h1 (dpAll_append h2 g)
/-- terms are being made into the list at b -/
def TInv (K : PySem.W.Frag) (n : Nat) (d c u nl : Addr) (zs : List Str) (H1 : Hp) (b : Addr) (N : Int) (i : Nat) (H : Hp) : Prop :=
  ∃ vs ds, vs.length = i ∧ H b = some (.lst vs) ∧ (∀ a o, a ≠ d → a ≠ c → a ≠ u → a ≠ b → H1 a = some o → H a = some o) ∧ Deck H d c (N + (i : Int) * dr n) ∧ Wo H d c u nl zs ∧ DpAll K H vs ds ∧ ∀ x, x ∈ ds → Ex zs (n + 2) x
/-- any expression -/
def sp_term (K : PySem.W.Frag) (n : Nat) : Sp := fun vs H Q _ => ∃ (d c u nl : Addr) (N deep ins : Int) (zs : List Str), vs = [.ref d, .ref u, .int deep, .int ins] ∧ Deck H d c N ∧ N + dr n < 2 ^ 58 ∧ Wo H d c u nl zs ∧ deep ≤ (n : Int) ∧
  ∀ H' v x, KeepW d c u H H' → Deck H' d c (N + dr n) → Wo H' d c u nl zs → Ex zs (n + 2) x → Dp K H' v x → Q v H'
theorem TInv.start {K : PySem.W.Frag} {n : Nat} {d c u nl : Addr} {zs : List Str} {H1 : Hp} {b : Addr} {N : Int} (D : Deck H1 d c N) (W : Wo H1 d c u nl zs) (nb : H1 b = none) : TInv K n d c u nl zs H1 b N 0 (L2.upd H1 b (.lst [])) := by
  have s := same_upd (o := .lst []) nb
  refine ⟨[], [], rfl, upd_same, fun a o _ _ _ h e => s _ _ e, (D.same s).mono ?_, W.same s, .nil, fun x hx => (nomatch hx)⟩
  rw [Int.natCast_zero, Int.zero_mul]
  omega
theorem TInv.step {K : PySem.W.Frag} {n : Nat} {d c u nl : Addr} {zs : List Str} {H1 H : Hp} {b : Addr} {N M deep ins : Int} {i : Nat} {Q : VK} {E : XK} (D : Deck H1 d c M) (W : Wo H1 d c u nl zs) (nb : H1 b = none) (T : TInv K n d c u nl zs H1 b N i H) (hi : i ≤ 2)
    (hN : N + 3 * dr n < 2 ^ 58) (hd : deep ≤ (n : Int)) (q : ∀ H' v, (∃ acc, H' b = some (.lst acc) ∧ acc.length < sizeLine ∧ TInv K n d c u nl zs H1 b N (i + 1) (L2.upd H' b (.lst (acc ++ [v])))) → Q v H') :
    sp_term K n [.ref d, .ref u, .int deep, .int ins] H Q E := by
  obtain ⟨vs, ds, hlen, hb, kk, D2, W2, hdp, hex⟩ := T
  have h1 := D.new nb
  have h2 := W.new nb
  have p := dr_pos n
  have hm : (i : Int) * dr n ≤ 2 * dr n := Int.mul_le_mul_of_nonneg_right (by omega) (by omega)
  have hs : ((i + 1 : Nat) : Int) * dr n = (i : Int) * dr n + dr n := by rw [Int.natCast_succ, Int.add_mul, Int.one_mul]
  refine ⟨d, c, u, nl, _, deep, ins, zs, rfl, D2, ?_, W2, hd, fun H' v x k D3 W3 he hv => q _ _ ?_⟩
  · omega
  have hb3 := k b _ h1.1 h1.2 h2.1 hb
  have kt := k.t D2 W2
  have kt2 : KeepT H' (L2.upd H' b (.lst (vs ++ [v]))) := KeepT.lst hb3
  refine ⟨vs, hb3, small1000 (by omega), vs ++ [v], ds ++ [x], by rw [List.length_append, hlen]; rfl, upd_same, ?_, ?_, W3.upd h2.1 h2.2, ?_, ?_⟩
  · intro a o n1 n2 n3 n4 e
    rw [upd_ne n4]
    exact k _ _ n1 n2 n3 (kk a o n1 n2 n3 n4 e)
  · refine (D3.upd h1.1 h1.2).mono ?_
    omega
  · refine dpAll_append (dp_keepAll (kt.trans kt2) _ _ (flatDs_of fun y hy => (hex y hy).flat) hdp) (.cons (dp_keep kt2 _ _ he.flat hv) .nil)
  · intro y hy
    rcases List.mem_append.mp hy with hy | hy
    · exact hex y hy
    · rw [List.mem_singleton.mp hy]
      exact he
end K5

namespace K5
open PySem PySem.Spec PyProof.Rows L2 GR
theorem noSl_name {x : Str} {pos : Pos} : NoSl (.Name x pos) := fun _ _ => rfl
abbrev fours : List Str := ["count", "sum", "most", "first"]
def manyK : List (Key × V) := [(.inr "count", .int 1), (.inr "sum", .int 2), (.inr "most", .int 3), (.inr "first", .int 2)]
theorem many_of : ∀ o, o ∈ fours → ∃ m : Nat, valV (mergeK [] manyK) (.inr o) = some (.int (m : Int)) ∧ (o, m + 1) ∈ aggs ∧ m ≤ 3 ∧ 1 ≤ m := by
  intro o ho
  simp only [List.mem_cons, List.not_mem_nil, or_false] at ho
  rcases ho with rfl | rfl | rfl | rfl
  · exact ⟨1, by decide, by decide, by decide, by decide⟩
  · exact ⟨2, by decide, by decide, by decide, by decide⟩
  · exact ⟨3, by decide, by decide, by decide, by decide⟩
  · exact ⟨2, by decide, by decide, by decide, by decide⟩
theorem TInv.keep {K : PySem.W.Frag} {n : Nat} {d c u nl : Addr} {zs : List Str} {H0 H1 H : Hp} {b : Addr} {N : Int} {i : Nat} (T : TInv K n d c u nl zs H1 b N i H) (k : KeepW d c u H0 H1) (nb : H0 b = none) : KeepW d c u H0 H := by
  obtain ⟨vs, ds, hlen, hb, kk, _⟩ := T
  exact fun a o n1 n2 n3 e => kk a o n1 n2 n3 (ne_of_none e nb) (k a o n1 n2 n3 e)
theorem KeepW.free {d c u a : Addr} {H H' : Hp} (s : KeepW d c u H H') (na : H' a = none) (h1 : a ≠ d) (h2 : a ≠ c) (h3 : a ≠ u) : H a = none := by
  cases q : H a with
  | none => rfl
  | some o =>
    rw [s a o h1 h2 h3 q] at na
    cases na
section
variable {P : Program} {w : World} {K : PySem.W.Frag} {mg : Str → Option Value} {base : Heap}
abbrev s_law_rows : Stmt := topS 19
abbrev N_rows : List Str := ["_law_deck_here", "_law_world_here", "_law_deep", "_law_inside_here", "_law_table", "_law_word", "_law_extra", "_law_test", "_law_many", "_law_k"]
abbrev ps_term : List Str := ["_law_deck_here", "_law_world_here", "_law_deep", "_law_inside_here"]
theorem sc_law_rows : FnScope N_rows ps_term (defScope s_law_rows) := ⟨rfl, rfl, rfl, by decide +kernel, rfl, by decide +kernel, by decide +kernel⟩
/-- an aggregate whose parts are terms of depth n -/
def sp_rows (K : PySem.W.Frag) (n : Nat) : Sp := fun vs H Q _ => ∃ (d c u nl : Addr) (N deep ins : Int) (zs : List Str), vs = [.ref d, .ref u, .int deep, .int ins] ∧ Deck H d c N ∧ N + 10 + 6 * dr n < 2 ^ 58 ∧ Wo H d c u nl zs ∧ deep ≤ (n : Int) + 1 ∧
  ∀ H' v x, KeepW d c u H H' → Deck H' d c (N + 10 + 6 * dr n) → Wo H' d c u nl zs → Ex zs (n + 3) x → Dp K H' v x → Q v H'
theorem ok_rows {n : Nat} {f f_law_draw f_law_pick f_law_term : Addr} {fd fd_law_draw fd_law_pick fd_law_term : FuncData} {k : Nat} (F : Fun K "_law_rows" "_law_rows" s_law_rows f fd) (G_law_draw : FnOk P w K mg base CX0 k f_law_draw fd_law_draw ["_law_deck_here", "_law_most"] sp_draw)
    (g_law_draw : mg "_law_draw" = some (.ref f_law_draw)) (K_law_draw : PySem.W.keepIn K (.ref f_law_draw) = true) (b_law_draw : Binds K fd_law_draw ["_law_deck_here", "_law_most"] [])
    (G_law_pick : FnOk P w K mg base CX0 k f_law_pick fd_law_pick ["_law_deck_here", "_law_some"] (sp_pick K))
    (g_law_pick : mg "_law_pick" = some (.ref f_law_pick)) (K_law_pick : PySem.W.keepIn K (.ref f_law_pick) = true) (b_law_pick : Binds K fd_law_pick ["_law_deck_here", "_law_some"] [])
    (G_law_term : FnOk P w K mg base CX0 k f_law_term fd_law_term ps_term (sp_term K n))
    (g_law_term : mg "_law_term" = some (.ref f_law_term)) (K_law_term : PySem.W.keepIn K (.ref f_law_term) = true) (b_law_term : Binds K fd_law_term ps_term [])
    (mrange : mg "range" = none) (mtuple : mg "tuple" = none) :
    FnOk P w K mg base CX0 (k + 1) f fd ps_term (sp_rows K n) := by
  have nd := sc_law_rows.nd
  refine F.ok sc_law_rows (fun vs H Q E h => ?_) (fun cdv A outer s H vs Q E hr h => ?_)
  · obtain ⟨d, c, u, nl, N, deep, ins, zs, rfl, _⟩ := h
    rfl
  obtain ⟨d, c, u, nl, N, deep, ins, zs, rfl, D, hN, W, hdeep, q⟩ := h
  have hp := dr_pos n
  have hu1 : (A.deeper (envOfC "_law_rows" (defScope s_law_rows) s.heap.objs.size f cdv)).units + 1 < cLine := by
    have := hr.units
    omega
  refine ⟨_, (pss_cons (ps_set (i := 4) nd rfl (.inl rfl) (pe_call G_law_pick hr (by rfl) g_law_pick K_law_pick b_law_pick .nil pass0 (pa_cons (pv 0) (pa_cons (pe_dget hu1 (pv 1) pe_str noSl_str) pa_nil))))
      (pss_cons (ps_set (i := 5) nd rfl (.inl rfl) (pe_call G_law_pick hr (by rfl) g_law_pick K_law_pick b_law_pick .nil pass0 (pa_cons (pv 0) (pa_cons (pe_lst (pa_cons pe_str (pa_cons pe_str (pa_cons pe_str (pa_cons pe_str pa_nil))))) pa_nil))))
      (pss_cons (ps_par (i := 6) (j := 7) rfl nd rfl rfl (by decide) rfl rfl (pa_cons (pe_tup pa_nil) (pa_cons (pe_tup (pa_cons pe_str (pa_cons (pv 4) (pa_cons (pe_tup (pa_cons pe_str pa_nil)) (pa_cons pe_str pa_nil))))) pa_nil)) (by rfl))
      (Evl.pss_cut (ps_if (pt_cmpR op_eq (pe_call G_law_draw hr (by rfl) g_law_draw K_law_draw b_law_draw .nil pass0 (pa_cons (pv 0) (pa_cons pe_int pa_nil))) pe_int (nomark _))
      (pss_cons (ps_set (i := 6) nd rfl (.inl rfl) (pe_callTy call_tuple_of (by rfl) mtuple boot_tuple (pa_cons (pe_lc (own := [("_law_k", 9)]) rfl nd (pi_range1 rfl mrange (pa_cons (pe_call G_law_draw hr (by rfl) g_law_draw K_law_draw b_law_draw .nil pass0 (pa_cons (pv 0) (pa_cons pe_int pa_nil))) pa_nil)) (blkOk_by (N := N_rows) (sc := defScope s_law_rows) (by decide +kernel)) (fun _ _ _ _ _ => (pg_name (i := 9) nd rfl (Or.inl rfl))) (fun _ _ _ _ _ => pts_nil)
          (te := tCall (sp_term K n) [] E0 (tCons (tVar 0) (tCons (tVar 1) (tCons (tOp (rI0 fun i j => .int (i - j)) (tVar 2) (tC (.int 1))) (tCons (tVar 3) tNil)))))
          (fun _ _ _ _ _ => (pe_call G_law_term hr (by rfl) g_law_term K_law_term b_law_term .nil pass0 (pa_cons (pv 0) (pa_cons (pv 1) (pa_cons (pe_op op_sub (pv 2) pe_int) (pa_cons (pv 3) pa_nil))))))) pa_nil)))
        (pss_one (ps_if (pt_cmpR op_eq (pe_call G_law_draw hr (by rfl) g_law_draw K_law_draw b_law_draw .nil pass0 (pa_cons (pv 0) (pa_cons pe_int pa_nil))) pe_int (nomark _))
        (pss_one (ps_set (i := 7) nd rfl (.inl rfl) (pe_call G_law_term hr (by rfl) g_law_term K_law_term b_law_term .nil pass0 (pa_cons (pv 0) (pa_cons (pv 1) (pa_cons (pe_op op_sub (pv 2) pe_int) (pa_cons (pv 3) pa_nil)))))))
        pss_nil)))
      pss_nil)
      (pss_cons (ps_set (i := 8) nd rfl (.inl rfl) (pe_dget hu1 (pe_disp (pps_cons pe_str pe_int (pps_cons pe_str pe_int (pps_cons pe_str pe_int (pps_cons pe_str pe_int pps_nil)))) (by decide) rfl (by simp) (by decide)) (pv 5) noSl_name))
      (pss_one (ps_ret (pe_op op_catT (pe_tup (pa_cons (pv 5) (pa_cons (pv 4) (pa_cons (pv 6) (pa_cons (pv 7) pa_nil))))) (pe_callTy call_tuple_of (by rfl) mtuple boot_tuple (pa_cons (pe_lc (own := [("_law_k", 9)]) rfl nd (pi_range1 rfl mrange (pa_cons (pv 8) pa_nil)) (blkOk_by (N := N_rows) (sc := defScope s_law_rows) (by decide +kernel)) (fun _ _ _ _ _ => (pg_name (i := 9) nd rfl (Or.inl rfl))) (fun _ _ _ _ _ => pts_nil)
          (te := tCall (sp_term K n) [] E0 (tCons (tVar 0) (tCons (tVar 1) (tCons (tOp (rI0 fun i j => .int (i - j)) (tVar 2) (tC (.int 1))) (tCons (tVar 3) tNil)))))
          (fun _ _ _ _ _ => (pe_call G_law_term hr (by rfl) g_law_term K_law_term b_law_term .nil pass0 (pa_cons (pv 0) (pa_cons (pv 1) (pa_cons (pe_op op_sub (pv 2) pe_int) (pa_cons (pv 3) pa_nil))))))) pa_nil)))))))))), ?_⟩
  -- table
  obtain ⟨L, hL⟩ := W.dct
  refine ⟨.ref d, rfl, .ref u, rfl, u, .ref nl, rfl, ?_, .inl ⟨d, c, nl, N, _, rfl, D, by omega, .inl (.inl W.nms), ?_, ?_, W.nd, W.nc, fun H1 v1 k1 D1 hv1 => ?_⟩⟩
  · rw [← wK_names nl L]
    exact DGet.k (k := .inr "names") hL
  · intro e
    have := congrArg List.length e
    rw [List.length_map, W.len] at this
    cases this
  · rw [List.length_map, W.len]
    decide
  obtain ⟨t, ht, rfl⟩ := List.mem_map.mp hv1
  have W1 := W.keep D k1
  -- word
  refine ⟨.ref d, rfl, small_le (show 4 ≤ 1000 by decide), fun l nl' => ?_⟩
  have sl := same_upd (o := .lst [.str "count", .str "sum", .str "most", .str "first"]) nl'
  have hl := D1.new nl'
  have hl1 : SqL K (upd H1 l (.lst [.str "count", .str "sum", .str "most", .str "first"])) l (fours.map V.str) := .inl (.inl upd_same)
  refine .inl ⟨d, c, l, N + 1, _, rfl, D1.same sl, by omega, hl1, List.cons_ne_nil _ _, by decide, hl.1, hl.2, fun H2 v2 k2 D2 hv2 => ?_⟩
  obtain ⟨o, ho, rfl⟩ := List.mem_map.mp hv2
  have W2 := (W1.same sl).keep (D1.same sl) k2
  have k02 : KeepW d c u H H2 := ((k1.trans (Keep.of sl)).trans k2).w u
  clear hl1 hL
  -- the pair
  refine ⟨Nat.zero_le _, fun p0 np0 => ⟨.str t, rfl, Nat.le_trans (by decide) le2, fun p1 np1 => ⟨small_le (show 4 ≤ 1000 by decide), fun p2 np2 => ?_⟩⟩⟩
  have s0 := same_upd (o := .tup []) np0
  have s1 := same_upd (o := .tup [.str "key"]) np1
  have s2 := same_upd (o := .tup [.str "cell", .str t, .ref p1, .str "in"]) np2
  have s02 := (s0.trans s1).trans s2
  have x0 := s2 _ _ (s1 _ _ (show upd H2 p0 (.tup []) p0 = _ from upd_same))
  have x1 := s2 _ _ (show upd (upd H2 p0 (.tup [])) p1 (.tup [.str "key"]) p1 = _ from upd_same)
  have x2 : upd (upd (upd H2 p0 (.tup [])) p1 (.tup [.str "key"])) p2 (.tup [.str "cell", .str t, .ref p1, .str "in"]) p2 = some (.tup [.str "cell", .str t, .ref p1, .str "in"]) := upd_same
  refine ⟨_, _, rfl, ?_⟩
  revert s02 x0 x1 x2
  generalize upd (upd (upd H2 p0 (.tup [])) p1 (.tup [.str "key"])) p2 (.tup [.str "cell", .str t, .ref p1, .str "in"]) = H3
  intro s02 x0 x1 x2
  have k03 := k02.trans (KeepW.of s02)
  have D3 := D2.same s02
  have W3 := W2.same s02
  have dp0 : Dp K H3 (.ref p0) (.tuple []) := .tup (.inl (.inl x0)) .nil
  have dp2 : Dp K H3 (.ref p2) (.tuple [.str "cell", .str t, .tuple [.str "key"], .str "in"]) := .tup (.inl (.inl x2)) (.cons (.str _) (.cons (.str _) (.cons (.tup (.inl (.inl x1)) (.cons (.str _) .nil)) (.cons (.str _) .nil))))
  have ex2 : Ex zs (n + 2) (.tuple [.str "cell", .str t, .tuple [.str "key"], .str "in"]) := .cell (n + 1) t _ _ ht W.inn (.leaf n _ .key)
  refine ⟨fun σ' H' => ∃ (pe : Addr) (te : V) (xs : List PyData) (y : PyData), σ' = [some (.ref d), some (.ref u), some (.int deep), some (.int ins), some (.str t), some (.str o), some (.ref pe), some te, none, none] ∧ KeepW d c u H H' ∧ Deck H' d c (N + 5 + 3 * dr n) ∧ Wo H' d c u nl zs ∧
    Dp K H' (.ref pe) (.tuple xs) ∧ xs.length ≤ 2 ∧ (∀ x, x ∈ xs → Ex zs (n + 2) x) ∧ Dp K H' te y ∧ Ex zs (n + 2) y, ?_, ?_⟩
  · refine ⟨.ref d, rfl, d, c, N + 1 + 1, 2, rfl, D3, by omega, by decide, by decide, fun H4 r4 k4 D4 r40 r41 => ⟨rfl, _, rfl, ite2 (fun e4 => ?_) (fun e4 => ?_)⟩⟩
    · have W4 := W3.keep D3 k4
      refine ⟨.ref d, rfl, d, c, N + 1 + 1 + 1, 3, rfl, D4, by omega, by decide, by decide, fun H5 r5 k5 D5 r50 r51 => ?_⟩
      obtain ⟨m, rfl⟩ := Int.eq_ofNat_of_zero_le r50
      have W5 := W4.keep D4 k5
      refine ⟨(m : Int), rfl, by omega, by omega, fun B nB => ?_⟩
      have em : ((m : Int)).toNat = m := by omega
      rw [em]
      have hm : (m : Int) * dr n ≤ 2 * dr n := Int.mul_le_mul_of_nonneg_right (by omega) (by omega)
      refine lc_range (n := m) (fun i H' => TInv K n d c u nl zs H5 B (N + 1 + 1 + 1 + 1) i H') (TInv.start D5 W5 nB) ?_ ?_
      · rintro i H6 hi T
        exact ⟨rfl, yes_then ⟨.ref d, rfl, .ref u, rfl, .int deep, rfl, deep, 1, rfl, rfl, .int ins, rfl, TInv.step (E := E) D5 W5 nB T (by omega) (by omega) (by omega) (fun H' v h => h)⟩⟩
      · rintro H6 T
        have k36 := T.keep (((k4.trans k5).w u)) (Keep.free (k4.trans k5) nB (D5.new nB).1 (D5.new nB).2)
        obtain ⟨vs, ds, hlen, hb, kk, D6, W6, hdp, hex⟩ := T
        refine ⟨B, _, rfl, .inl ⟨.inl (.inl hb), fun l1 nl1 => ?_⟩⟩
        have s7 := same_upd (o := .tup vs) nl1
        have D7 := D6.same s7
        have W7 := W6.same s7
        have k37 := k36.trans (KeepW.of s7)
        have dpx : Dp K (upd H6 l1 (.tup vs)) (.ref l1) (.tuple ds) := .tup (.inl (.inl upd_same)) (dp_keepAll (KeepT.of s7) _ _ (flatDs_of fun y hy => (hex y hy).flat) hdp)
        have fds : flatD (.tuple ds) = true := by rw [flatD]; exact flatDs_of fun y hy => (hex y hy).flat
        have ldx : ds.length ≤ 2 := by
          rw [← dpAll_len hdp, hlen]
          omega
        revert D7 W7 k37 dpx
        generalize upd H6 l1 (.tup vs) = H7
        intro D7 W7 k37 dpx
        refine ⟨.ref d, rfl, d, c, _, 2, rfl, D7, by omega, by decide, by decide, fun H8 r8 k8 D8 r80 r81 => ⟨rfl, _, rfl, ite2 (fun e8 => ?_) (fun e8 => ?_)⟩⟩
        · have W8 := W7.keep D7 k8
          refine ⟨.ref d, rfl, .ref u, rfl, .int deep, rfl, deep, 1, rfl, rfl, .int ins, rfl, d, c, u, nl, _, deep - 1, ins, zs, rfl, D8, by omega, W8, by omega, fun H9 v x k9 D9 W9 he hv => ?_⟩
          refine ⟨l1, v, ds, x, rfl, (k03.trans k37).trans ((k8.w u).trans k9), D9.mono (by omega), W9, dp_keep ((k8.t D7).trans (k9.t D8 W8)) _ _ fds dpx, ldx, hex, hv, he⟩
        · refine ⟨l1, .ref p2, ds, _, rfl, (k03.trans k37).trans (k8.w u), D8.mono (by omega), W7.keep D7 k8, dp_keep (k8.t D7) _ _ fds dpx, ldx, hex, dp_keep ((k37.t D3 W3).trans (k8.t D7)) _ _ ex2.flat dp2, ex2⟩
    · exact ⟨p0, .ref p2, [], _, rfl, k03.trans (k4.w u), D4.mono (by omega), W3.keep D3 k4, dp_keep (k4.t D3) _ _ rfl dp0, Nat.zero_le _, fun x hx => (nomatch hx), dp_keep (k4.t D3) _ _ ex2.flat dp2, ex2⟩
  rintro σ' H4 ⟨pe, te, xs, y, rfl, k4, D4, W4, dpe, lxs, hxs, dte, hy⟩
  obtain ⟨m, hm1, hm2, hm3, hm4⟩ := many_of o ho
  intro p np
  have sp := same_upd (o := .dK []) np
  refine ⟨upd_same, manyK, rfl, by decide, .str o, rfl, p, .int (m : Int), rfl, by rw [← hm1]; exact DGet.k (k := .inr o) upd_same, ?_⟩
  have s5 : Same H4 (upd (upd H4 p (.dK [])) p (.dK (mergeK [] manyK))) := fun b ob e => by
    rw [upd_ne (ne_of_none e np)]
    exact sp _ _ e
  revert s5
  generalize upd (upd H4 p (.dK [])) p (.dK (mergeK [] manyK)) = H5
  intro s5
  refine ⟨.str o, rfl, .str t, rfl, .ref pe, rfl, te, rfl, small_le (show 4 ≤ 1000 by decide), fun a na => ?_⟩
  have s6 := same_upd (o := .tup [.str o, .str t, .ref pe, te]) na
  have ha : upd H5 a (.tup [.str o, .str t, .ref pe, te]) a = some (.tup [.str o, .str t, .ref pe, te]) := upd_same
  revert s6 ha
  generalize upd H5 a (.tup [.str o, .str t, .ref pe, te]) = H6
  intro s6 ha
  have s46 := s5.trans s6
  have k6 := k4.trans (KeepW.of s46)
  have D6 := D4.same s46
  have W6 := W4.same s46
  have fx : flatD (.tuple xs) = true := by rw [flatD]; exact flatDs_of fun x hx => (hxs x hx).flat
  refine ⟨.int (m : Int), rfl, (m : Int), rfl, by omega, by omega, fun B nB => ?_⟩
  have em : ((m : Int)).toNat = m := by omega
  rw [em]
  have hm : (m : Int) * dr n ≤ 3 * dr n := Int.mul_le_mul_of_nonneg_right (by omega) (by omega)
  refine lc_range (n := m) (fun i H' => TInv K n d c u nl zs H6 B (N + 5 + 3 * dr n) i H') (TInv.start D6 W6 nB) ?_ ?_
  · rintro i H7 hi T
    exact ⟨rfl, yes_then ⟨.ref d, rfl, .ref u, rfl, .int deep, rfl, deep, 1, rfl, rfl, .int ins, rfl, TInv.step (E := E) D6 W6 nB T (by omega) (by omega) (by omega) (fun H' v h => h)⟩⟩
  · rintro H7 T
    have k7 := T.keep KeepW.refl nB
    obtain ⟨vs, ds, hlen, hb, kk, D7, W7, hdp, hex⟩ := T
    refine ⟨B, _, rfl, .inl ⟨.inl (.inl hb), fun l nl1 => ?_⟩⟩
    have s8 := same_upd (o := .tup vs) nl1
    have t67 := k7.t D6 W6
    have t68 := t67.trans (KeepT.of s8)
    have ha8 := t68.1 _ _ ha
    have hl8 : upd H7 l (.tup vs) l = some (.tup vs) := upd_same
    refine ⟨a, l, _, _, rfl, rfl, .inl (.inl ha8), .inl (.inl hl8), List.cons_ne_nil _ _, ?_, fun e => ?_, fun _ r nr => ?_⟩
    · rw [hlen]
      exact small_le (show 4 + m ≤ 1000 by omega)
    · rw [e] at hlen
      rw [← hlen] at hm4
      exact absurd hm4 (by decide)
    have s9 := same_upd (o := .tup ([.str o, .str t, .ref pe, te] ++ vs)) nr
    have t69 := t68.trans (KeepT.of s9)
    have t49 := (KeepT.of s46).trans t69
    refine q _ _ (.tuple (.str o :: .str t :: .tuple xs :: y :: ds)) (k6.trans (k7.trans (KeepW.of (s8.trans s9)))) (((D7.same s8).same s9).mono (by omega)) ((W7.same s8).same s9) ?_ ?_
    · refine .agg (n + 2) o t xs (y :: ds) ?_ ht lxs hxs ?_
      · rw [List.length_cons, ← dpAll_len hdp, hlen]
        exact hm2
      · intro z hz
        rcases List.mem_cons.mp hz with rfl | hz
        · exact hy
        · exact hex z hz
    · refine .tup (.inl (.inl upd_same)) (.cons (.str o) (.cons (.str t) (.cons (dp_keep t49 _ _ fx dpe) (.cons (dp_keep t49 _ _ hy.flat dte) ?_))))
      exact dp_keepAll ((KeepT.of s8).trans (KeepT.of s9)) _ _ (flatDs_of fun z hz => (hex z hz).flat) hdp
end
end K5

namespace K5
open PySem PySem.Spec PyProof.Rows L2 GR
abbrev sevens : List Str := ["+", "-", "*", "<", "=", "at", "at"]
theorem seven_op : ∀ o, o ∈ sevens → o ∈ opws := by
  intro o ho
  simp only [List.mem_cons, List.not_mem_nil, or_false] at ho
  rcases ho with rfl | rfl | rfl | rfl | rfl | rfl | rfl <;> decide
section
variable {P : Program} {w : World} {K : PySem.W.Frag} {mg : Str → Option Value} {base : Heap}
abbrev s_law_term : Stmt := topS 20
abbrev N_term : List Str := ["_law_deck_here", "_law_world_here", "_law_deep", "_law_inside_here", "_law_way", "_law_one", "_law_other"]
theorem sc_law_term : FnScope N_term ps_term (defScope s_law_term) := ⟨rfl, rfl, rfl, by decide +kernel, rfl, by decide +kernel, by decide +kernel⟩
/-- one step: the terms of depth n, the aggregates upon them give the terms of depth n + 1; at depth 0 there are leaves only (j = 0) -/
theorem ok_term_step {j : Nat} {f f_law_draw f_law_pick f_law_leaf f_law_rows : Addr} {fd fd_law_draw fd_law_pick fd_law_leaf fd_law_rows : FuncData} {k : Nat} (F : Fun K "_law_term" "_law_term" s_law_term f fd) (G_law_draw : FnOk P w K mg base CX0 k f_law_draw fd_law_draw ["_law_deck_here", "_law_most"] sp_draw)
    (g_law_draw : mg "_law_draw" = some (.ref f_law_draw)) (K_law_draw : PySem.W.keepIn K (.ref f_law_draw) = true) (b_law_draw : Binds K fd_law_draw ["_law_deck_here", "_law_most"] [])
    (G_law_pick : FnOk P w K mg base CX0 k f_law_pick fd_law_pick ["_law_deck_here", "_law_some"] (sp_pick K))
    (g_law_pick : mg "_law_pick" = some (.ref f_law_pick)) (K_law_pick : PySem.W.keepIn K (.ref f_law_pick) = true) (b_law_pick : Binds K fd_law_pick ["_law_deck_here", "_law_some"] [])
    (G_law_leaf : FnOk P w K mg base CX0 k f_law_leaf fd_law_leaf ["_law_deck_here", "_law_world_here"] (sp_leaf K))
    (g_law_leaf : mg "_law_leaf" = some (.ref f_law_leaf)) (K_law_leaf : PySem.W.keepIn K (.ref f_law_leaf) = true) (b_law_leaf : Binds K fd_law_leaf ["_law_deck_here", "_law_world_here"] [])
    (G_law_rows : FnOk P w K mg base CX0 k f_law_rows fd_law_rows ps_term (fun vs H Q E => ∃ n, j = n + 1 ∧ sp_rows K n vs H Q E))
    (g_law_rows : mg "_law_rows" = some (.ref f_law_rows)) (K_law_rows : PySem.W.keepIn K (.ref f_law_rows) = true) (b_law_rows : Binds K fd_law_rows ps_term [])
    (G_law_term : FnOk P w K mg base CX0 k f fd ps_term (fun vs H Q E => ∃ n, j = n + 1 ∧ sp_term K n vs H Q E))
    (g_law_term : mg "_law_term" = some (.ref f)) (K_law_term : PySem.W.keepIn K (.ref f) = true) (b_law_term : Binds K fd ps_term []) :
    FnOk P w K mg base CX0 (k + 1) f fd ps_term (sp_term K j) := by
  have nd := sc_law_term.nd
  refine F.ok sc_law_term (fun vs H Q E h => ?_) (fun cdv A outer s H vs Q E hr h => ?_)
  · obtain ⟨d, c, u, nl, N, deep, ins, zs, rfl, _⟩ := h
    rfl
  obtain ⟨d, c, u, nl, N, deep, ins, zs, rfl, D, hN, W, hdeep, q⟩ := h
  have hp := dr_pos j
  have hu1 : (A.deeper (envOfC "_law_term" (defScope s_law_term) s.heap.objs.size f cdv)).units + 1 < cLine := by
    have := hr.units
    omega
  refine ⟨_, (pss_cons (ps_asg (pe_op op_sub (pe_dget hu1 (pv 1) pe_str noSl_str) pe_int) (pg_sub (pv 1) pe_str (set_dict hu1)))
      (pss_cons (ps_set (i := 4) nd rfl (.inl rfl) (pe_call G_law_draw hr (by rfl) g_law_draw K_law_draw b_law_draw .nil pass0 (pa_cons (pv 0) (pa_cons pe_int pa_nil))))
      (pss_cons (ps_if (PW.pt (pw_or (pt_cmpR op_lt (pv 2) pe_int (nomark _)) (pw_or (pt_cmpR op_lt (pe_dget hu1 (pv 1) pe_str noSl_str) pe_int (nomark _)) (pw_or1 (pt_cmpR op_lt (pv 4) pe_int (nomark _))))))
      (pss_one (ps_ret (pe_call G_law_leaf hr (by rfl) g_law_leaf K_law_leaf b_law_leaf .nil pass0 (pa_cons (pv 0) (pa_cons (pv 1) pa_nil)))))
      pss_nil)
      (Evl.pss_cut (ps_if (PW.pt (pw_and (pt_cmpR op_gt (pv 4) pe_int (nomark _)) (pw_and1 (pt_cmpR op_lt (pv 3) pe_int (nomark _)))))
      (pss_one (ps_ret (pe_call G_law_rows hr (by rfl) g_law_rows K_law_rows b_law_rows .nil pass0 (pa_cons (pv 0) (pa_cons (pv 1) (pa_cons (pv 2) (pa_cons (pe_op op_add (pv 3) pe_int) pa_nil)))))))
      pss_nil)
      (pss_cons (ps_set (i := 5) nd rfl (.inl rfl) (pe_call G_law_term hr (by rfl) g_law_term K_law_term b_law_term .nil pass0 (pa_cons (pv 0) (pa_cons (pv 1) (pa_cons (pe_op op_sub (pv 2) pe_int) (pa_cons (pv 3) pa_nil))))))
      (pss_cons (ps_if (pt_cmpR op_lt (pv 4) pe_int (nomark _))
      (pss_one (ps_ret (pe_tup (pa_cons pe_str (pa_cons (pe_call G_law_pick hr (by rfl) g_law_pick K_law_pick b_law_pick .nil pass0 (pa_cons (pv 0) (pa_cons (pe_dget hu1 (pv 1) pe_str noSl_str) pa_nil))) (pa_cons (pv 5) (pa_cons (pe_call G_law_pick hr (by rfl) g_law_pick K_law_pick b_law_pick .nil pass0 (pa_cons (pv 0) (pa_cons (pe_dget hu1 (pv 1) pe_str noSl_str) pa_nil))) pa_nil)))))))
      pss_nil)
      (pss_cons (ps_set (i := 6) nd rfl (.inl rfl) (pe_call G_law_term hr (by rfl) g_law_term K_law_term b_law_term .nil pass0 (pa_cons (pv 0) (pa_cons (pv 1) (pa_cons (pe_op op_sub (pv 2) pe_int) (pa_cons (pv 3) pa_nil))))))
      (pss_cons (ps_if (pt_cmpR op_eq (pv 4) pe_int (nomark _))
      (pss_one (ps_ret (pe_tup (pa_cons pe_str (pa_cons (pv 5) (pa_cons (pv 6) (pa_cons (pe_call G_law_term hr (by rfl) g_law_term K_law_term b_law_term .nil pass0 (pa_cons (pv 0) (pa_cons (pv 1) (pa_cons (pe_op op_sub (pv 2) pe_int) (pa_cons (pv 3) pa_nil))))) pa_nil)))))))
      pss_nil)
      (pss_one (ps_ret (pe_tup (pa_cons (pe_call G_law_pick hr (by rfl) g_law_pick K_law_pick b_law_pick .nil pass0 (pa_cons (pv 0) (pa_cons (pe_lst (pa_cons pe_str (pa_cons pe_str (pa_cons pe_str (pa_cons pe_str (pa_cons pe_str (pa_cons pe_str (pa_cons pe_str pa_nil)))))))) pa_nil))) (pa_cons (pv 5) (pa_cons (pv 6) pa_nil)))))))))))))), ?_⟩
  -- one less may come
  obtain ⟨L, hL⟩ := W.dct
  refine ⟨.ref u, rfl, u, .int L, rfl, by rw [← wK_left nl L]; exact DGet.k (k := .inr "left") hL, L, 1, rfl, rfl, .ref u, rfl, u, _, rfl, DPut.k (k := .inr "left") hL (small1000 (show 2 ≤ 1000 by decide)), ?_⟩
  rw [wK_put]
  have hud := W.ud D
  have k1 : KeepW d c u H (upd H u (.dK (wK nl (L - 1)))) := fun b o n1 n2 n3 e => by
    rw [upd_ne n3]
    exact e
  have D1 := D.upd (o := .dK (wK nl (L - 1))) hud.1 hud.2
  have W1 : Wo (upd H u (.dK (wK nl (L - 1)))) d c u nl zs := by
    refine ⟨⟨L - 1, upd_same⟩, ?_, W.nd, W.nc, W.len, W.all, W.inn⟩
    rw [upd_ne W.un]
    exact W.nms
  revert k1 D1 W1
  generalize upd H u (.dK (wK nl (L - 1))) = H1
  intro k1 D1 W1
  clear hL
  refine ⟨.ref d, rfl, d, c, N, 14, rfl, D1, by omega, by decide, by decide, fun H2 way k2 D2 w0 w1 => ?_⟩
  have W2 := W1.keep D1 k2
  have k02 := k1.trans (k2.w u)
  obtain ⟨L2', hL2⟩ := W2.dct
  have lf : ∀ E', sp_leaf K [.ref d, .ref u] H2 Q E' := fun E' => ⟨d, c, u, nl, N + 1, zs, rfl, D2, by omega, W2, fun H' v x k D' hx hv => q H' v x (k02.trans (k.w u)) (D'.mono (by omega)) (W2.keep D2 k) (.leaf (j + 1) x hx) hv⟩
  refine ⟨.int deep, rfl, _, _, rfl, rfl, _, rfl, ite2 (fun e1 => iteT ⟨.ref d, rfl, .ref u, rfl, lf E⟩) (fun e1 => ⟨.ref u, rfl, u, .int L2', rfl, by rw [← wK_left nl L2']; exact DGet.k (k := .inr "left") hL2, _, _, rfl, rfl, _, rfl, ite2 (fun e2 => iteT ⟨.ref d, rfl, .ref u, rfl, lf E⟩) (fun e2 => ⟨.int way, rfl, _, _, rfl, rfl, _, rfl, ite2 (fun e3 => ⟨.ref d, rfl, .ref u, rfl, lf E⟩) (fun e3 => ?_)⟩)⟩)⟩
  have hd1 : ¬ deep < 1 := fun z => e1 (decide_eq_true z)
  obtain ⟨n, rfl⟩ : ∃ n, j = n + 1 := ⟨j - 1, by omega⟩
  have hpn := dr_pos n
  have hdr : dr (n + 1) = 20 + 6 * dr n := rfl
  have hlen7 : zs.map V.str ≠ [] := by
    intro e
    have := congrArg List.length e
    rw [List.length_map, W2.len] at this
    cases this
  have hlen8 : (zs.map V.str).length ≤ 1000 := by
    rw [List.length_map, W2.len]
    decide
  refine ⟨fun σ' H' => σ' = [some (.ref d), some (.ref u), some (.int deep), some (.int ins), some (.int way), none, none] ∧ H' = H2, ?_, ?_⟩
  · refine ⟨.int way, rfl, _, _, rfl, rfl, _, rfl, ite2 (fun e4 => ⟨.int ins, rfl, _, _, rfl, rfl, _, rfl, ite2 (fun e5 => ?_) (fun e5 => ⟨rfl, rfl⟩)⟩) (fun e4 => iteF ⟨rfl, rfl⟩)⟩
    exact ⟨.ref d, rfl, .ref u, rfl, .int deep, rfl, .int ins, rfl, ins, 1, rfl, rfl, n, rfl, d, c, u, nl, N + 1, deep, ins + 1, zs, rfl, D2, by omega, W2, by omega, fun H' v x k D' W' hx hv => q H' v x (k02.trans k) (D'.mono (by omega)) W' hx hv⟩
  rintro σ' H' ⟨rfl, rfl⟩
  refine ⟨.ref d, rfl, .ref u, rfl, .int deep, rfl, deep, 1, rfl, rfl, .int ins, rfl, n, rfl, d, c, u, nl, N + 1, deep - 1, ins, zs, rfl, D2, by omega, W2, by omega, fun H3 v1 x1 k3 D3 W3 he1 hv1 => ?_⟩
  have k03 := k02.trans k3
  refine ⟨.int way, rfl, _, _, rfl, rfl, _, rfl, ite2 (fun e6 => ?_) (fun e6 => ?_)⟩
  · -- a cell
    obtain ⟨L3, hL3⟩ := W3.dct
    refine ⟨.ref d, rfl, .ref u, rfl, u, .ref nl, rfl, by rw [← wK_names nl L3]; exact DGet.k (k := .inr "names") hL3, .inl ⟨d, c, nl, _, _, rfl, D3, by omega, .inl (.inl W3.nms), hlen7, hlen8, W3.nd, W3.nc, fun H4 v4 k4 D4 hv4 => ?_⟩⟩
    obtain ⟨t, ht, rfl⟩ := List.mem_map.mp hv4
    have W4 := W3.keep D3 k4
    obtain ⟨L4, hL4⟩ := W4.dct
    refine ⟨v1, rfl, .ref d, rfl, .ref u, rfl, u, .ref nl, rfl, by rw [← wK_names nl L4]; exact DGet.k (k := .inr "names") hL4, .inl ⟨d, c, nl, _, _, rfl, D4, by omega, .inl (.inl W4.nms), hlen7, hlen8, W4.nd, W4.nc, fun H5 v5 k5 D5 hv5 => ?_⟩⟩
    obtain ⟨y, hy, rfl⟩ := List.mem_map.mp hv5
    have W5 := W4.keep D4 k5
    refine ⟨small_le (show 4 ≤ 1000 by decide), fun p np => ?_⟩
    have s := same_upd (o := .tup [.str "cell", .str t, v1, .str y]) np
    refine q _ _ _ (k03.trans (((k4.trans k5).w u).trans (KeepW.of s))) ((D5.same s).mono (by omega)) (W5.same s) (.cell (n + 2) t y x1 ht hy he1) (.tup (.inl (.inl upd_same)) (.cons (.str _) (.cons (.str t) (.cons ?_ (.cons (.str y) .nil)))))
    exact dp_keep (((k4.t D3).trans (k5.t D4)).trans (KeepT.of s)) _ _ he1.flat hv1
  refine ⟨.ref d, rfl, .ref u, rfl, .int deep, rfl, deep, 1, rfl, rfl, .int ins, rfl, n, rfl, d, c, u, nl, _, deep - 1, ins, zs, rfl, D3, by omega, W3, by omega, fun H4 v2 x2 k4 D4 W4 he2 hv2 => ?_⟩
  have k04 := k03.trans k4
  have t4 := k4.t D3 W3
  refine ⟨.int way, rfl, rfl, _, rfl, ite2 (fun e7 => ?_) (fun e7 => ?_)⟩
  · -- an if
    refine ⟨v1, rfl, v2, rfl, .ref d, rfl, .ref u, rfl, .int deep, rfl, deep, 1, rfl, rfl, .int ins, rfl, n, rfl, d, c, u, nl, _, deep - 1, ins, zs, rfl, D4, by omega, W4, by omega, fun H5 v3 x3 k5 D5 W5 he3 hv3 => ⟨small_le (show 4 ≤ 1000 by decide), fun p np => ?_⟩⟩
    have s := same_upd (o := .tup [.str "if", v1, v2, v3]) np
    have t5 := k5.t D4 W4
    refine q _ _ _ (k04.trans (k5.trans (KeepW.of s))) ((D5.same s).mono (by omega)) (W5.same s) (.iff (n + 2) x1 x2 x3 he1 he2 he3) (.tup (.inl (.inl upd_same)) (.cons (.str _) (.cons ?_ (.cons ?_ (.cons ?_ .nil)))))
    · exact dp_keep ((t4.trans t5).trans (KeepT.of s)) _ _ he1.flat hv1
    · exact dp_keep (t5.trans (KeepT.of s)) _ _ he2.flat hv2
    · exact dp_keep (KeepT.of s) _ _ he3.flat hv3
  -- one of two
  refine ⟨.ref d, rfl, small_le (show 7 ≤ 1000 by decide), fun l nl' => ?_⟩
  have sl := same_upd (o := .lst [.str "+", .str "-", .str "*", .str "<", .str "=", .str "at", .str "at"]) nl'
  have hl := D4.new nl'
  have hl1 : SqL K (upd H4 l (.lst [.str "+", .str "-", .str "*", .str "<", .str "=", .str "at", .str "at"])) l (sevens.map V.str) := .inl (.inl upd_same)
  have D5 := D4.same sl
  have W5 := W4.same sl
  refine .inl ⟨d, c, l, _, _, rfl, D5, by omega, hl1, List.cons_ne_nil _ _, by decide, hl.1, hl.2, fun H6 v6 k6 D6 hv6 => ?_⟩
  obtain ⟨o, ho, rfl⟩ := List.mem_map.mp hv6
  have W6 := W5.keep D5 k6
  have t6 := (KeepT.of sl).trans (k6.t D5)
  refine ⟨v1, rfl, v2, rfl, small_le (show 3 ≤ 1000 by decide), fun p np => ?_⟩
  have s := same_upd (o := .tup [.str o, v1, v2]) np
  refine q _ _ _ (k04.trans ((KeepW.of sl).trans ((k6.w u).trans (KeepW.of s)))) ((D6.same s).mono (by omega)) (W6.same s) (.op (n + 2) o x1 x2 (seven_op o ho) he1 he2) (.tup (.inl (.inl upd_same)) (.cons (.str o) (.cons ?_ (.cons ?_ .nil))))
  · exact dp_keep ((t4.trans t6).trans (KeepT.of s)) _ _ he1.flat hv1
  · exact dp_keep (t6.trans (KeepT.of s)) _ _ he2.flat hv2
end
end K5

namespace K5
open PySem PySem.Spec PyProof.Rows L2 GR
section
variable {P : Program} {w : World} {K : PySem.W.Frag} {mg : Str → Option Value} {base : Heap}
theorem ok_none {k : Nat} {f : Addr} {fd : FuncData} {ps : List Str} {sp : Sp} (h : ∀ vs H Q E, ¬ sp vs H Q E) : FnOk P w K mg base CX0 k f fd ps sp :=
  ⟨fun vs H Q E q => absurd q (h vs H Q E), fun A outer s H args us vs Q E hr he hb hv hs => absurd hs (h vs H Q E)⟩
/-- terms of each depth, two levels a depth -/
theorem ok_terms {f f_law_draw f_law_pick f_law_leaf f_law_rows : Addr} {fd fd_law_draw fd_law_pick fd_law_leaf fd_law_rows : FuncData} {k : Nat} (F : Fun K "_law_term" "_law_term" s_law_term f fd) (R : Fun K "_law_rows" "_law_rows" s_law_rows f_law_rows fd_law_rows)
    (G_law_draw : FnOk P w K mg base CX0 k f_law_draw fd_law_draw ["_law_deck_here", "_law_most"] sp_draw)
    (g_law_draw : mg "_law_draw" = some (.ref f_law_draw)) (K_law_draw : PySem.W.keepIn K (.ref f_law_draw) = true) (b_law_draw : Binds K fd_law_draw ["_law_deck_here", "_law_most"] [])
    (G_law_pick : FnOk P w K mg base CX0 k f_law_pick fd_law_pick ["_law_deck_here", "_law_some"] (sp_pick K))
    (g_law_pick : mg "_law_pick" = some (.ref f_law_pick)) (K_law_pick : PySem.W.keepIn K (.ref f_law_pick) = true) (b_law_pick : Binds K fd_law_pick ["_law_deck_here", "_law_some"] [])
    (G_law_leaf : FnOk P w K mg base CX0 k f_law_leaf fd_law_leaf ["_law_deck_here", "_law_world_here"] (sp_leaf K))
    (g_law_leaf : mg "_law_leaf" = some (.ref f_law_leaf)) (K_law_leaf : PySem.W.keepIn K (.ref f_law_leaf) = true) (b_law_leaf : Binds K fd_law_leaf ["_law_deck_here", "_law_world_here"] [])
    (g_law_rows : mg "_law_rows" = some (.ref f_law_rows)) (K_law_rows : PySem.W.keepIn K (.ref f_law_rows) = true) (b_law_rows : Binds K fd_law_rows ps_term [])
    (g_law_term : mg "_law_term" = some (.ref f)) (K_law_term : PySem.W.keepIn K (.ref f) = true) (b_law_term : Binds K fd ps_term [])
    (mrange : mg "range" = none) (mtuple : mg "tuple" = none) : ∀ n : Nat, FnOk P w K mg base CX0 (k + 2 * n + 1) f fd ps_term (sp_term K n)
  | 0 => ok_term_step F G_law_draw g_law_draw K_law_draw b_law_draw G_law_pick g_law_pick K_law_pick b_law_pick G_law_leaf g_law_leaf K_law_leaf b_law_leaf (ok_none fun vs H Q E ⟨n, h, _⟩ => by omega) g_law_rows K_law_rows b_law_rows (ok_none fun vs H Q E ⟨n, h, _⟩ => by omega) g_law_term K_law_term b_law_term
  | n + 1 => by
    have ih := ok_terms F R G_law_draw g_law_draw K_law_draw b_law_draw G_law_pick g_law_pick K_law_pick b_law_pick G_law_leaf g_law_leaf K_law_leaf b_law_leaf g_law_rows K_law_rows b_law_rows g_law_term K_law_term b_law_term mrange mtuple n
    have rw1 := ok_rows (n := n) R (G_law_draw.mono (show k ≤ k + 2 * n + 1 by omega)) g_law_draw K_law_draw b_law_draw (G_law_pick.mono (show k ≤ k + 2 * n + 1 by omega)) g_law_pick K_law_pick b_law_pick ih g_law_term K_law_term b_law_term mrange mtuple
    refine ok_term_step (k := k + 2 * n + 2) F (G_law_draw.mono (by omega)) g_law_draw K_law_draw b_law_draw (G_law_pick.mono (by omega)) g_law_pick K_law_pick b_law_pick (G_law_leaf.mono (by omega)) g_law_leaf K_law_leaf b_law_leaf (rw1.imp ?_) g_law_rows K_law_rows b_law_rows ((ih.mono (by omega)).imp ?_) g_law_term K_law_term b_law_term
    · rintro vs H Q E ⟨m, hm, h⟩
      obtain rfl : n = m := by omega
      exact h
    · rintro vs H Q E ⟨m, hm, h⟩
      obtain rfl : n = m := by omega
      exact h
end
end K5

namespace WX
open PySem PySem.Spec PySem.AutoSeq1
theorem ext_tup (l : Addr) (items : Array Value) (n : Nat) (b : Addr) (items2 : Array Value) (n2 : Nat) (dd : Option Addr) (sl : Array (Option Value)) (hs0 : ¬(!items.isEmpty && Builtin.List.listTooLong (items.size + items2.size)) = true) (hs1 : items.size ≤ sizeLine) (hs2 : items.size + items2.size ≤ sizeLine + 1) :
    Meets (Builtin.«list.extend» ⟨[.ref l, .ref b], []⟩) (fun _ R s => s.heap.get? l = some { cls := .type "list", dict := none, data := .seq items n, slots := #[] } ∧ s.heap.get? b = some { cls := .type "tuple", dict := dd, data := .seq items2 n2, slots := sl } ∧ R (.ok (.ret Value.none)) { s with heap := s.heap.update l (Obj.mapSeq fun x => x ++ items2), toks := s.toks }) := by
  refine .of_wp fun prog w A R s h => ?_
  obtain ⟨hp, g, d, tk, os⟩ := s
  obtain ⟨hl, hb, h⟩ := h
  have f1 := idx_int
  have f2 := sub_tuple_tuple
  have f3 := sub_list_list
  have f4 := sub_tuple_list
  have f5 := sub_list_tuple
  have hz' : (items ++ items2).size ≤ sizeLine + 1 := by
    rw [Array.size_append]
    exact hs2
  wp_walk using (wpAny_updateSeq hl rfl (hz := hs1) (_hz' := hz')), wpAny_loadPart' hl, wpAny_loadPart' hb
  exact ⟨_, rfl, h⟩
end WX

/-! Words that the hand layer lacks: a list extended by a tuple. -/
namespace WX
open PySem PySem.Spec PyProof.Rows L2
def rExtendT (K : PySem.W.Frag) : V → List V → Hp → VK → Prop := fun x vs H Q => ∃ (l b : Addr) (xs zs : List V), x = .ref l ∧ vs = [.ref b] ∧ H l = some (.lst xs) ∧ SqT K H b zs ∧ xs.length + zs.length ≤ sizeLine ∧ Q .non (upd H l (.lst (xs ++ zs)))
section
variable {X : Cx}
theorem mt_extendT : MtM X "list.extend" (rExtendT X.K) := by
  intro pins s σ H x vs v us Q I rx rv h
  obtain ⟨l, b, xs, zs, rfl, rfl, hH, hB, hz, q⟩ := h
  cases rx
  obtain ⟨u, rfl, ru⟩ := rv.one
  cases ru
  obtain ⟨z, its, n, r, hl, e⟩ := I.lstM hH
  obtain ⟨its2, r2, ⟨⟨c2, d2, dat2, sl2⟩, g2, hc2, n2, hd2⟩, z2⟩ := I.tuple hB
  have hc2 : c2 = .type "tuple" := hc2
  have hd2 : dat2 = .seq its2.toArray n2 := hd2
  subst hc2
  subst hd2
  have hl2 := r2.length
  have small : its.toArray.size + its2.toArray.size ≤ sizeLine := by
    rw [List.size_toArray, List.size_toArray]
    omega
  have short : ¬ (!its.toArray.isEmpty && Builtin.List.listTooLong (its.toArray.size + its2.toArray.size)) = true := by
    rw [notLongL small, Bool.and_false]
    exact Bool.false_ne_true
  refine call_meets F.slot_list_extend ⟨_, e, rfl⟩ F.entry_list_extend (F.args_list_extend_2 _ _)
    (ext_tup l its.toArray n b its2.toArray n2 d2 sl2 short (by rw [List.size_toArray]; omega) (by omega)) ⟨e, g2, ?_⟩
  refine ⟨.non, _, I.lset (its' := its ++ its2) hH e (by simp) (r.append r2) ?_, rfl, q⟩
  rw [List.length_append]
  omega
/-- a list extended by a list or by a tuple -/
def rExtendA (K : PySem.W.Frag) : V → List V → Hp → VK → Prop := fun x vs H Q => rExtend x vs H Q ∨ rExtendT K x vs H Q
theorem mt_extendA : MtM X "list.extend" (rExtendA X.K) := by
  intro pins s σ H x vs v us Q I rx rv h
  rcases h with h | h
  · exact mt_extend pins s σ H x vs v us Q I rx rv h
  · exact mt_extendT pins s σ H x vs v us Q I rx rv h
end
end WX

namespace K5
open PySem PySem.Spec PyProof.Rows L2 GR
/-- what stands behind each word -/
def table : List (Str × List Str) := [("int", ["value"]), ("var", ["name"]), ("key", []), ("let", ["position"]), ("cell", ["name", "free", "name"]), ("+", ["free", "free"]), ("-", ["free", "free"]), ("*", ["free", "free"]), ("<", ["free", "free"]), ("=", ["free", "free"]),
  ("if", ["free", "free", "free"]), ("at", ["free", "bound"]), ("count", ["name", "extra", "bound", "bound"]), ("sum", ["name", "extra", "bound", "bound", "bound"]), ("most", ["name", "extra", "bound", "bound", "bound", "free"]), ("first", ["name", "extra", "bound", "bound", "free"])]
def items : PyData → List PyData
  | .tuple xs => xs
  | _ => []
def pick (wanted : List Str) : List Str → List PyData → List PyData
  | f :: fs, d :: ds => (if f = "extra" then items d else if f ∈ wanted then [d] else []) ++ pick wanted fs ds
  | _, _ => []
/-- what stands behind the word fits its kinds, as far as contained_of asks -/
inductive Fits : List Str → List PyData → Prop
  | nil : Fits [] []
  | cons {f : Str} {d : PyData} {fs : List Str} {ds : List PyData} : (f = "extra" → ∃ xs, d = .tuple xs) → Fits fs ds → Fits (f :: fs) (d :: ds)
/-- the form of an expression -/
def Form (x : PyData) (w : Str) (fs : List Str) (rest : List PyData) : Prop := x = .tuple (.str w :: rest) ∧ (w, fs) ∈ table ∧ Fits fs rest
theorem fit1 {f : Str} {d : PyData} {fs : List Str} {ds : List PyData} (h : f ≠ "extra") (t : Fits fs ds) : Fits (f :: fs) (d :: ds) := .cons (fun e => absurd e h) t
theorem Ex.form {zs : List Str} {n : Nat} {x : PyData} (h : Ex zs n x) : ∃ w fs rest, Form x w fs rest := by
  cases h with
  | leaf n x h =>
    cases h with
    | int i _ _ => exact ⟨"int", ["value"], _, rfl, by decide, fit1 (by decide) .nil⟩
    | let_ i _ _ => exact ⟨"let", ["position"], _, rfl, by decide, fit1 (by decide) .nil⟩
    | key => exact ⟨"key", [], _, rfl, by decide, .nil⟩
    | var z _ => exact ⟨"var", ["name"], _, rfl, by decide, fit1 (by decide) .nil⟩
  | cell n t v x h1 h2 h3 => exact ⟨"cell", ["name", "free", "name"], _, rfl, by decide, fit1 (by decide) (fit1 (by decide) (fit1 (by decide) .nil))⟩
  | op n o x y h1 h2 h3 =>
    simp only [opws, List.mem_cons, List.not_mem_nil, or_false] at h1
    rcases h1 with rfl | rfl | rfl | rfl | rfl | rfl
    · exact ⟨_, ["free", "free"], _, rfl, by decide, fit1 (by decide) (fit1 (by decide) .nil)⟩
    · exact ⟨_, ["free", "free"], _, rfl, by decide, fit1 (by decide) (fit1 (by decide) .nil)⟩
    · exact ⟨_, ["free", "free"], _, rfl, by decide, fit1 (by decide) (fit1 (by decide) .nil)⟩
    · exact ⟨_, ["free", "free"], _, rfl, by decide, fit1 (by decide) (fit1 (by decide) .nil)⟩
    · exact ⟨_, ["free", "free"], _, rfl, by decide, fit1 (by decide) (fit1 (by decide) .nil)⟩
    · exact ⟨_, ["free", "bound"], _, rfl, by decide, fit1 (by decide) (fit1 (by decide) .nil)⟩
  | iff n x y z h1 h2 h3 => exact ⟨"if", ["free", "free", "free"], _, rfl, by decide, fit1 (by decide) (fit1 (by decide) (fit1 (by decide) .nil))⟩
  | agg n o t xs ys h1 h2 h3 h4 h5 =>
    have tl : ∀ d : PyData, (("extra" : Str) = "extra" → ∃ us, d = .tuple us) ∨ True := fun _ => .inr trivial
    simp only [aggs, List.mem_cons, List.not_mem_nil, or_false, Prod.mk.injEq] at h1
    rcases h1 with ⟨rfl, h⟩ | ⟨rfl, h⟩ | ⟨rfl, h⟩ | ⟨rfl, h⟩
    · match ys, h with
      | [_, _], _ => exact ⟨_, ["name", "extra", "bound", "bound"], _, rfl, by decide, fit1 (by decide) (.cons (fun _ => ⟨xs, rfl⟩) (fit1 (by decide) (fit1 (by decide) .nil)))⟩
    · match ys, h with
      | [_, _, _], _ => exact ⟨_, ["name", "extra", "bound", "bound", "bound"], _, rfl, by decide, fit1 (by decide) (.cons (fun _ => ⟨xs, rfl⟩) (fit1 (by decide) (fit1 (by decide) (fit1 (by decide) .nil))))⟩
    · match ys, h with
      | [_, _, _, _], _ => exact ⟨_, ["name", "extra", "bound", "bound", "bound", "free"], _, rfl, by decide, fit1 (by decide) (.cons (fun _ => ⟨xs, rfl⟩) (fit1 (by decide) (fit1 (by decide) (fit1 (by decide) (fit1 (by decide) .nil)))))⟩
    · match ys, h with
      | [_, _, _], _ => exact ⟨_, ["name", "extra", "bound", "bound", "free"], _, rfl, by decide, fit1 (by decide) (.cons (fun _ => ⟨xs, rfl⟩) (fit1 (by decide) (fit1 (by decide) (fit1 (by decide) .nil))))⟩
/-- the written table at fA -/
def Flds (K : PySem.W.Frag) (w : World) (fA : Addr) : Prop := ∀ wd fs, (wd, fs) ∈ table → ∃ p, KDct K w fA wd (.ref p) ∧ ∀ H, SqT K H p (fs.map V.str)
end K5
namespace K5
open PySem PySem.Spec PyProof.Rows L2 GR
/-- what one field gives -/
def pick1 (wanted : List Str) (f : Str) (d : PyData) : List PyData := if f = "extra" then items d else if f ∈ wanted then [d] else []
theorem pick_take (W : List Str) : ∀ {fs : List Str} {ds : List PyData} (i : Nat) {f : Str} {d : PyData}, fs[i]? = some f → ds[i]? = some d → pick W (fs.take (i + 1)) (ds.take (i + 1)) = pick W (fs.take i) (ds.take i) ++ pick1 W f d
  | f0 :: fs, d0 :: ds, 0, f, d, hf, hd => by
    cases hf
    cases hd
    simp only [List.take_succ_cons, List.take_zero, pick, pick1, List.append_nil, List.nil_append]
  | f0 :: fs, d0 :: ds, i + 1, f, d, hf, hd => by
    rw [List.getElem?_cons_succ] at hf hd
    have := pick_take W i hf hd
    simp only [List.take_succ_cons, pick]
    rw [this, List.append_assoc]
  | [], _, _, _, _, hf, _ => by simp at hf
  | _ :: _, [], _, _, _, _, hd => by simp at hd
theorem pick_len (W : List Str) : ∀ {fs : List Str} {ds : List PyData} (i : Nat), (pick W (fs.take i) (ds.take i)).length ≤ (pick W fs ds).length
  | f0 :: fs, d0 :: ds, 0 => by simp only [List.take_zero, pick]; exact Nat.zero_le _
  | f0 :: fs, d0 :: ds, i + 1 => by
    have := pick_len W (fs := fs) (ds := ds) i
    simp only [List.take_succ_cons, pick, List.length_append]
    omega
  | [], ds, i => by simp only [List.take_nil, pick]; exact Nat.zero_le _
  | f0 :: fs, [], i => by
    simp only [List.take_nil]
    cases fs.take i <;> cases i <;> simp [pick]
theorem flatDs_at : ∀ {ds : List PyData} {i : Nat} {d : PyData}, flatDs ds = true → ds[i]? = some d → flatD d = true
  | d0 :: ds, 0, d, h, e => by
    cases e
    rw [flatDs, Bool.and_eq_true] at h
    exact h.1
  | d0 :: ds, i + 1, d, h, e => by
    rw [flatDs, Bool.and_eq_true] at h
    rw [List.getElem?_cons_succ] at e
    exact flatDs_at h.2 e
  | [], _, _, _, e => by simp at e
theorem flatDs_append : ∀ {xs ys : List PyData}, flatDs xs = true → flatDs ys = true → flatDs (xs ++ ys) = true
  | [], _, _, h => h
  | x :: xs, ys, h, g => by
    rw [flatDs, Bool.and_eq_true] at h
    rw [List.cons_append, flatDs, h.1, flatDs_append h.2 g]
    rfl
theorem flat_pick1 {W : List Str} {f : Str} {d : PyData} (h : flatD d = true) : flatDs (pick1 W f d) = true := by
  unfold pick1
  split
  · cases d <;> simp only [items, flatDs]
    rw [flatD] at h
    exact h
  · split
    · rw [flatDs, h, flatDs]
      rfl
    · rw [flatDs]
theorem flat_pick {W : List Str} : ∀ {fs : List Str} {ds : List PyData}, flatDs ds = true → flatDs (pick W fs ds) = true
  | f :: fs, d :: ds, h => by
    rw [flatDs, Bool.and_eq_true] at h
    exact flatDs_append (flat_pick1 (W := W) (f := f) h.1) (flat_pick h.2)
  | [], _, _ => by simp only [pick, flatDs]
  | _ :: _, [], _ => by simp only [pick, flatDs]
theorem flatDs_take {ds : List PyData} (i : Nat) (h : flatDs ds = true) : flatDs (ds.take i) = true := by
  induction ds generalizing i with
  | nil => simp only [List.take_nil, flatDs]
  | cons d ds ih =>
    rw [flatDs, Bool.and_eq_true] at h
    cases i with
    | zero => simp only [List.take_zero, flatDs]
    | succ i =>
      rw [List.take_succ_cons, flatDs, h.1, ih i h.2]
      rfl
theorem Fits.len {fs : List Str} {ds : List PyData} (h : Fits fs ds) : fs.length = ds.length := by
  induction h with
  | nil => rfl
  | cons _ _ ih => rw [List.length_cons, List.length_cons, ih]
theorem Fits.at' {fs : List Str} {ds : List PyData} (h : Fits fs ds) : ∀ {i : Nat} {d : PyData}, fs[i]? = some ("extra" : Str) → ds[i]? = some d → ∃ xs, d = .tuple xs := by
  induction h with
  | nil =>
    intro i d e
    simp at e
  | cons h1 h2 ih =>
    intro i d e1 e2
    cases i with
    | zero =>
      simp only [List.getElem?_cons_zero, Option.some.injEq] at e1 e2
      obtain ⟨xs, rfl⟩ := h1 e1
      exact ⟨xs, e2.symm⟩
    | succ i =>
      rw [List.getElem?_cons_succ] at e1 e2
      exact ih e1 e2
theorem dpAll_at {K : PySem.W.Frag} {H : Hp} : ∀ {vs : List V} {ds : List PyData} {i : Nat} {v : V}, DpAll K H vs ds → vs[i]? = some v → ∃ d, ds[i]? = some d ∧ Dp K H v d
  | _, _, 0, v, .cons h _, e => by
    cases e
    exact ⟨_, rfl, h⟩
  | _, _, i + 1, v, .cons _ h, e => by
    rw [List.getElem?_cons_succ] at e ⊢
    exact dpAll_at h e
  | _, _, _, _, .nil, e => by simp at e
end K5

namespace K5
open PySem PySem.Spec PyProof.Rows L2 GR WX RZ
section
variable {P : Program} {w : World} {K : PySem.W.Frag} {mg : Str → Option Value} {base : Heap}
abbrev s_contained_of : Stmt := topS 5
theorem sc_contained_of : FnScope ["expression", "wanted", "found", "kind", "part"] ["expression", "wanted"] (defScope s_contained_of) := ⟨rfl, rfl, rfl, by decide +kernel, rfl, by decide +kernel, by decide +kernel⟩
def sp_contained_of (K : PySem.W.Frag) : Sp := fun vs H Q _ => ∃ (a wA : Addr) (wd : Str) (fs wanted : List Str) (rest : List PyData), vs = [.ref a, .ref wA] ∧ Dp K H (.ref a) (.tuple (.str wd :: rest)) ∧ (wd, fs) ∈ table ∧ Fits fs rest ∧ flatDs rest = true ∧ (pick wanted fs rest).length ≤ 1000 ∧ SqT K H wA (wanted.map V.str) ∧
  ∀ H' p us, Same H H' → H p = none → H' p = some (.lst us) → DpAll K H' us (pick wanted fs rest) → Q (.ref p) H'
theorem wanted_in (f : Str) (W : List Str) : inV (.str f) (W.map V.str) = decide (f ∈ W) := by
  unfold inV
  rw [List.any_map, Bool.eq_iff_iff, List.any_eq_true, decide_eq_true_eq]
  constructor
  · rintro ⟨z, hz, e⟩
    have : eqV (.str z) (.str f) = true := e
    have e2 : z = f := by
      simpa [eqV] using this
    exact e2 ▸ hz
  · intro h
    exact ⟨f, h, by show eqV (.str f) (.str f) = true; simp [eqV]⟩
theorem flat_strs (W : List Str) : (W.map V.str).all flatV = true := by
  rw [List.all_map, List.all_eq_true]
  intro z _
  rfl
theorem ok_contained_of {f fA : Addr} {fd : FuncData} {k : Nat} (F : Fun K "contained_of" "contained_of" s_contained_of f fd) (mFIELDS : mg "FIELDS" = some (.ref fA)) (T : Flds K w fA) (mzip : mg "zip" = none) :
    FnOk P w K mg base CX0 (k + 1) f fd ["expression", "wanted"] (sp_contained_of K) := by
  have nd := sc_contained_of.nd
  refine F.ok sc_contained_of (fun vs H Q E h => ?_) (fun cdv A outer s H vs Q E hr h => ?_)
  · obtain ⟨a, wA, wd, fs, wanted, rest, rfl, _⟩ := h
    rfl
  obtain ⟨a, wA, wd, fs, wanted, rest, rfl, hd, ht, hfit, hflat, hlen, hW, q⟩ := h
  refine ⟨_, (pss_cons (ps_set (i := 2) nd rfl (.inl rfl) (pe_lst pa_nil))
      (pss_cons (ps_for PassesOwn.never rfl (pi_zipA (by rfl) mzip (pa_cons (pe_ix ix_kdict (pe_glob rfl mFIELDS (v := .ref fA) rfl) (pe_ix ix_tup (pv 0) pe_int (fun _ _ => rfl)) (fun _ _ => rfl)) (pa_cons (pe_slice sl_tup (pv 0) (po_some pe_int) po_none) pa_nil))) (pg_tup rfl (pgs_cons (pg_name (i := 3) nd rfl (Or.inl rfl)) (pgs_cons (pg_name (i := 4) nd rfl (Or.inl rfl)) pgs_nil)))
      (pss_one (ps_if (pt_cmpR op_eq (pv 3) pe_str (nomark _))
        (pss_one (ps_expr (pe_bm PySem.F.plainAttrs_list PySem.F.slot_list_extend PySem.F.type_list_extend mt_extendT (pv 2) (pa_cons (pv 4) pa_nil))))
        (pss_one (ps_if (pt_cmpR op_in_seq (pv 3) (pv 1) (by rfl))
          (pss_one (ps_expr (pe_bm PySem.F.plainAttrs_list PySem.F.slot_list_append PySem.F.type_list_append mt_append (pv 2) (pa_cons (pv 4) pa_nil))))
          pss_nil)))))
      (pss_one (ps_ret (pv 2))))), ?_⟩
  cases hd with
  | tup hS hA =>
  cases hA with
  | cons hw hA =>
  cases hw
  rename_i vs0
  obtain ⟨fp, hK, hF⟩ := T wd fs ht
  have hl0 := dpAll_len hA
  refine ⟨Nat.zero_le _, fun fo nfo => ?_⟩
  have sf := same_upd (o := .lst []) nfo
  refine ⟨.ref a, rfl, a, _, 0, .str wd, rfl, rfl, (KeepT.of sf).seqt hS, at0, fA, wd, .ref fp, rfl, rfl, hK, .ref a, rfl, 1, rfl, a, _, rfl, (KeepT.of sf).seqt hS, ?_, fun c nc => ?_⟩
  · rw [List.length_cons]
    rintro ⟨e, _⟩
    have : HT.sIx (vs0.length + 1) 0 (some 1) = min 1 (vs0.length + 1) := HT.sIx_nat _ _ 1
    rw [this] at e
    omega
  have hcut : cutV (.str wd :: vs0) (some 1) none = vs0 := by
    unfold cutV
    rw [HT.sIx_none, show HT.sIx (V.str wd :: vs0).length 0 (some 1) = min 1 (V.str wd :: vs0).length from HT.sIx_nat _ _ 1, List.length_cons, show min 1 (vs0.length + 1) = 1 by omega, List.drop_succ_cons, List.drop_zero, show vs0.length + 1 - 1 = vs0.length by omega, List.take_length]
  rw [hcut]
  have sc := same_upd (o := .tup vs0) nc
  have hc1 : upd (upd H fo (.lst [])) c (.tup vs0) c = some (.tup vs0) := upd_same
  have hf1 := sc _ _ (show upd H fo (.lst []) fo = _ from upd_same)
  have s2 := sf.trans sc
  revert hc1 hf1 s2
  generalize upd (upd H fo (.lst [])) c (.tup vs0) = H1
  intro hc1 hf1 s2
  have hl : (fs.map V.str).length = vs0.length := by rw [List.length_map, hfit.len, hl0]
  refine ⟨fp, c, fs.map V.str, vs0, rfl, .inr ⟨hF H1, .inl (.inl hc1), ?_⟩⟩
  refine for_zipT hl (fun i σ H' => ∃ (y3 y4 : Option V) (us : List V), σ = [some (.ref a), some (.ref wA), some (.ref fo), y3, y4] ∧ H' fo = some (.lst us) ∧ DpAll K H' us (pick wanted (fs.take i) (rest.take i)) ∧ (∀ b o, b ≠ fo → H1 b = some o → H' b = some o)) ?_ ?_ ?_ ?_
  · refine ⟨none, none, [], rfl, hf1, ?_, fun b o _ e => e⟩
    simp only [List.take_zero, pick]
    exact .nil
  · rintro i σ H' ⟨y3, y4, us, rfl, hu, hdp, kk⟩
    exact ⟨hF H', .inl (.inl (kk _ _ (ne_of hc1 hf1 (fun z => by cases z)) hc1))⟩
  · rintro i x y t σ H' hx hy ⟨y3, y4, us, rfl, hu, hdp, kk⟩ nt
    rw [List.getElem?_map] at hx
    obtain ⟨fi, hfi, rfl⟩ : ∃ fi, fs[i]? = some fi ∧ x = .str fi := by
      cases e : fs[i]? with
      | none =>
        rw [e] at hx
        cases hx
      | some fi =>
        rw [e] at hx
        cases hx
        exact ⟨fi, rfl, rfl⟩
    obtain ⟨di, hdi, hyd⟩ := dpAll_at hA hy
    have st := same_upd (o := .tup [.str fi, y]) nt
    have kt : KeepT H (upd H' t (.tup [.str fi, y])) := ⟨fun b xs e => st _ _ (kk _ _ (ne_of_none e nfo) (s2 _ _ e)), fun b o xs e => st _ _ (kk _ _ (ne_of_none e nfo) (s2 _ _ e))⟩
    have fdi := flatDs_at hflat hdi
    have hyd2 := dp_keep kt _ _ fdi hyd
    have hu2 := st _ _ hu
    have ntf : t ≠ fo := (ne_of_none hu nt).symm
    have hp : pick wanted (fs.take (i + 1)) (rest.take (i + 1)) = pick wanted (fs.take i) (rest.take i) ++ pick1 wanted fi di := pick_take wanted i hfi hdi
    have hl2 := pick_len wanted (fs := fs) (ds := rest) (i + 1)
    have hlu := dpAll_len hdp
    have fpk : flatDs (pick wanted (fs.take i) (rest.take i)) = true := flat_pick (flatDs_take i hflat)
    rw [hp, List.length_append] at hl2
    -- what is put behind us
    have turn : ∀ zs' : List V, DpAll K (upd H' t (.tup [.str fi, y])) zs' (pick1 wanted fi di) → ∃ (z3 z4 : Option V) (us' : List V), [some (.ref a), some (.ref wA), some (.ref fo), some (.str fi), some y] = [some (.ref a), some (.ref wA), some (.ref fo), z3, z4] ∧
        upd (upd H' t (.tup [.str fi, y])) fo (.lst (us ++ zs')) fo = some (.lst us') ∧ DpAll K (upd (upd H' t (.tup [.str fi, y])) fo (.lst (us ++ zs'))) us' (pick wanted (fs.take (i + 1)) (rest.take (i + 1))) ∧ (∀ b o, b ≠ fo → H1 b = some o → upd (upd H' t (.tup [.str fi, y])) fo (.lst (us ++ zs')) b = some o) := by
      intro zs' hz
      have k2 : KeepT (upd H' t (.tup [.str fi, y])) (upd (upd H' t (.tup [.str fi, y])) fo (.lst (us ++ zs'))) := KeepT.lst hu2
      refine ⟨_, _, us ++ zs', rfl, upd_same, ?_, fun b o hb e => ?_⟩
      · rw [hp]
        exact dpAll_append (dp_keepAll ((KeepT.of st).trans k2) _ _ fpk hdp) (dp_keepAll k2 _ _ (flat_pick1 fdi) hz)
      · rw [upd_ne hb]
        exact st _ _ (kk b o hb e)
    refine ⟨t, [.str fi, y], rfl, .inl (.inl upd_same), rfl, _, _, rfl, _, _, rfl, rfl, ?_⟩
    refine ⟨.str fi, rfl, rfl, _, rfl, ite2 (fun e1 => ?_) (fun e1 => ?_)⟩
    · have e1 : fi = "extra" := by simpa using e1
      subst e1
      obtain ⟨xs, rfl⟩ := hfit.at' hfi hdi
      cases hyd2 with
      | tup hys hyA =>
      rename_i ya zs'
      have hz := dpAll_len hyA
      refine ⟨.ref fo, rfl, .inl ⟨rfl, _, .inl (.inl hu2)⟩, .ref ya, rfl, fo, ya, us, zs', rfl, rfl, hu2, hys, ?_, turn zs' ?_⟩
      · rw [hlu, hz]
        unfold pick1 at hl2
        rw [if_pos rfl, items] at hl2
        exact small_le (by omega)
      · unfold pick1
        rw [if_pos rfl]
        exact hyA
    · have e1 : fi ≠ "extra" := fun z => e1 (by simpa using z)
      refine ⟨.str fi, rfl, .ref wA, rfl, wA, wanted.map V.str, rfl, .inr ((KeepT.trans ⟨fun b xs e => kk _ _ (ne_of_none e nfo) (s2 _ _ e), fun b o xs e => kk _ _ (ne_of_none e nfo) (s2 _ _ e)⟩ (KeepT.of st)).seqt hW), rfl, flat_strs wanted, _, rfl, ?_⟩
      rw [wanted_in]
      refine ite2 (fun e2 => ?_) (fun e2 => ?_)
      · have e2 : fi ∈ wanted := by simpa using e2
        refine ⟨.ref fo, rfl, .inl ⟨rfl, _, .inl (.inl hu2)⟩, y, rfl, fo, _, _, rfl, rfl, hu2, ?_, turn [y] ?_⟩
        · rw [hlu]
          exact small1000 (by omega)
        · unfold pick1
          rw [if_neg e1, if_pos e2]
          exact .cons hyd2 .nil
      · have e2 : fi ∉ wanted := fun z => e2 (by simpa using z)
        refine ⟨_, _, us, rfl, hu2, ?_, fun b o hb e => st _ _ (kk b o hb e)⟩
        rw [hp]
        unfold pick1
        rw [if_neg e1, if_neg e2, List.append_nil]
        exact dp_keepAll (KeepT.of st) _ _ fpk hdp
  · rintro σ H' ⟨y3, y4, us, rfl, hu, hdp, kk⟩
    have e1 : fs.take (fs.map V.str).length = fs := by rw [List.length_map, List.take_length]
    have e2 : rest.take (fs.map V.str).length = rest := by rw [List.length_map, hfit.len, List.take_length]
    rw [e1, e2] at hdp
    refine ⟨.ref fo, rfl, q H' fo us (fun b o e => kk _ _ (ne_of_none e nfo) (s2 _ _ e)) nfo hu hdp⟩
end
end K5

namespace K5
open PySem PySem.Spec PyProof.Rows L2 GR
abbrev W2 : List Str := ["free", "bound"]
def fieldsOf (w : Str) : List Str := ((table.find? fun p => decide (p.1 = w)).map (·.2)).getD []
/-- what an expression contains directly -/
def kids : PyData → List PyData
  | .tuple (.str w :: rest) => pick W2 (fieldsOf w) rest
  | _ => []
theorem fieldsOf_table : ∀ p, p ∈ table → fieldsOf p.1 = p.2 := by decide
theorem Form.kids {x : PyData} {w : Str} {fs : List Str} {rest : List PyData} (h : Form x w fs rest) : kids x = pick W2 fs rest := by
  obtain ⟨rfl, ht, _⟩ := h
  show pick W2 (fieldsOf w) rest = _
  rw [show fieldsOf w = fs from fieldsOf_table (w, fs) ht]
theorem kids_of {w : Str} {fs : List Str} {rest : List PyData} (ht : (w, fs) ∈ table) : kids (.tuple (.str w :: rest)) = pick W2 fs rest := by
  show pick W2 (fieldsOf w) rest = _
  rw [show fieldsOf w = fs from fieldsOf_table (w, fs) ht]
theorem p_no {f : Str} {d : PyData} {fs : List Str} {ds : List PyData} (h : f ≠ "extra") (h2 : f ∉ W2) : pick W2 (f :: fs) (d :: ds) = pick W2 fs ds := by
  simp only [pick, if_neg h, if_neg h2, List.nil_append]
theorem p_yes {f : Str} {d : PyData} {fs : List Str} {ds : List PyData} (h : f ≠ "extra") (h2 : f ∈ W2) : pick W2 (f :: fs) (d :: ds) = d :: pick W2 fs ds := by
  simp only [pick, if_neg h, if_pos h2, List.cons_append, List.nil_append]
theorem p_ex {xs : List PyData} {fs : List Str} {ds : List PyData} : pick W2 ("extra" :: fs) (.tuple xs :: ds) = xs ++ pick W2 fs ds := by
  simp only [pick, if_pos, items]
theorem p_nil : pick W2 [] [] = [] := rfl
/-- the parts contained, by the form -/
theorem kids_leaf {zs : List Str} {x : PyData} (h : Leaf zs x) : kids x = [] := by
  cases h with
  | int i _ _ => rw [kids_of (fs := ["value"]) (by decide), p_no (by decide) (by decide), p_nil]
  | let_ i _ _ => rw [kids_of (fs := ["position"]) (by decide), p_no (by decide) (by decide), p_nil]
  | key => rw [kids_of (fs := []) (by decide), p_nil]
  | var z _ => rw [kids_of (fs := ["name"]) (by decide), p_no (by decide) (by decide), p_nil]
theorem kids_cell {t v : Str} {x : PyData} : kids (.tuple [.str "cell", .str t, x, .str v]) = [x] := by
  rw [kids_of (fs := ["name", "free", "name"]) (by decide), p_no (by decide) (by decide), p_yes (by decide) (by decide), p_no (by decide) (by decide), p_nil]
theorem kids_if {x y z : PyData} : kids (.tuple [.str "if", x, y, z]) = [x, y, z] := by
  rw [kids_of (fs := ["free", "free", "free"]) (by decide), p_yes (by decide) (by decide), p_yes (by decide) (by decide), p_yes (by decide) (by decide), p_nil]
theorem kids_op {o : Str} {x y : PyData} (h : o ∈ opws) : kids (.tuple [.str o, x, y]) = [x, y] := by
  simp only [opws, List.mem_cons, List.not_mem_nil, or_false] at h
  rcases h with rfl | rfl | rfl | rfl | rfl | rfl
  · rw [kids_of (fs := ["free", "free"]) (by decide), p_yes (by decide) (by decide), p_yes (by decide) (by decide), p_nil]
  · rw [kids_of (fs := ["free", "free"]) (by decide), p_yes (by decide) (by decide), p_yes (by decide) (by decide), p_nil]
  · rw [kids_of (fs := ["free", "free"]) (by decide), p_yes (by decide) (by decide), p_yes (by decide) (by decide), p_nil]
  · rw [kids_of (fs := ["free", "free"]) (by decide), p_yes (by decide) (by decide), p_yes (by decide) (by decide), p_nil]
  · rw [kids_of (fs := ["free", "free"]) (by decide), p_yes (by decide) (by decide), p_yes (by decide) (by decide), p_nil]
  · rw [kids_of (fs := ["free", "bound"]) (by decide), p_yes (by decide) (by decide), p_yes (by decide) (by decide), p_nil]
theorem kids_agg {o t : Str} {xs ys : List PyData} (h : (o, ys.length) ∈ aggs) : kids (.tuple (.str o :: .str t :: .tuple xs :: ys)) = xs ++ ys := by
  simp only [aggs, List.mem_cons, List.not_mem_nil, or_false, Prod.mk.injEq] at h
  rcases h with ⟨rfl, h⟩ | ⟨rfl, h⟩ | ⟨rfl, h⟩ | ⟨rfl, h⟩
  · match ys, h with
    | [_, _], _ => rw [kids_of (fs := ["name", "extra", "bound", "bound"]) (by decide), p_no (by decide) (by decide), p_ex, p_yes (by decide) (by decide), p_yes (by decide) (by decide), p_nil]
  · match ys, h with
    | [_, _, _], _ => rw [kids_of (fs := ["name", "extra", "bound", "bound", "bound"]) (by decide), p_no (by decide) (by decide), p_ex, p_yes (by decide) (by decide), p_yes (by decide) (by decide), p_yes (by decide) (by decide), p_nil]
  · match ys, h with
    | [_, _, _, _], _ => rw [kids_of (fs := ["name", "extra", "bound", "bound", "bound", "free"]) (by decide), p_no (by decide) (by decide), p_ex, p_yes (by decide) (by decide), p_yes (by decide) (by decide), p_yes (by decide) (by decide), p_yes (by decide) (by decide), p_nil]
  · match ys, h with
    | [_, _, _], _ => rw [kids_of (fs := ["name", "extra", "bound", "bound", "free"]) (by decide), p_no (by decide) (by decide), p_ex, p_yes (by decide) (by decide), p_yes (by decide) (by decide), p_yes (by decide) (by decide), p_nil]
theorem agg_len {o : Str} {n : Nat} (h : (o, n) ∈ aggs) : n ≤ 4 := by
  simp only [aggs, List.mem_cons, List.not_mem_nil, or_false, Prod.mk.injEq] at h
  omega
theorem Ex.kids {zs : List Str} {n : Nat} {x : PyData} (h : Ex zs (n + 1) x) : (∀ y, y ∈ kids x → Ex zs n y) ∧ (kids x).length ≤ 6 := by
  cases h with
  | leaf n x h =>
    rw [kids_leaf h]
    exact ⟨fun y hy => (nomatch hy), by decide⟩
  | cell n t v x h1 h2 h3 =>
    rw [kids_cell]
    refine ⟨fun y hy => ?_, (show 1 ≤ 6 by decide)⟩
    rw [List.mem_singleton.mp hy]
    exact h3
  | op n o x y h1 h2 h3 =>
    rw [kids_op h1]
    refine ⟨fun z hz => ?_, (show 2 ≤ 6 by decide)⟩
    simp only [List.mem_cons, List.not_mem_nil, or_false] at hz
    rcases hz with rfl | rfl
    · exact h2
    · exact h3
  | iff n x y z h1 h2 h3 =>
    rw [kids_if]
    refine ⟨fun u hu => ?_, (show 3 ≤ 6 by decide)⟩
    simp only [List.mem_cons, List.not_mem_nil, or_false] at hu
    rcases hu with rfl | rfl | rfl
    · exact h1
    · exact h2
    · exact h3
  | agg n o t xs ys h1 h2 h3 h4 h5 =>
    rw [kids_agg h1]
    have := agg_len h1
    refine ⟨fun u hu => ?_, by rw [List.length_append]; omega⟩
    rcases List.mem_append.mp hu with hu | hu
    · exact h4 u hu
    · exact h5 u hu
/-! ### levels -/
/-- the level below -/
def down (l : List PyData) : List PyData := l.flatMap kids
/-- n levels, from l on -/
def lvls : Nat → List PyData → List PyData
  | 0, _ => []
  | n + 1, l => l ++ lvls n (down l)
/-- all parts, each with its own behind it -/
def flatP : Nat → PyData → List PyData
  | 0, _ => []
  | n + 1, x => x :: (kids x).flatMap (flatP n)
def bnd : Nat → Nat
  | 0 => 0
  | n + 1 => 1 + 6 * bnd n
theorem sum_le {α : Type} (f : α → Nat) (b : Nat) : ∀ l : List α, (∀ x, x ∈ l → f x ≤ b) → (l.map f).sum ≤ l.length * b
  | [], _ => by simp
  | x :: l, h => by
    have h1 := h x List.mem_cons_self
    have h2 := sum_le f b l fun y hy => h y (List.mem_cons_of_mem _ hy)
    rw [List.map_cons, List.sum_cons, List.length_cons, Nat.succ_mul]
    omega
theorem flatP_len {zs : List Str} : ∀ {n : Nat} {x : PyData}, Ex zs n x → (flatP n x).length ≤ bnd n
  | 0, _, h => by cases h
  | n + 1, x, h => by
    obtain ⟨h1, h2⟩ := h.kids
    have h3 : ((kids x).flatMap (flatP n)).length ≤ 6 * bnd n := by
      rw [List.length_flatMap]
      have := sum_le (fun y => (flatP n y).length) (bnd n) (kids x) fun y hy => flatP_len (h1 y hy)
      have h4 : (kids x).length * bnd n ≤ 6 * bnd n := Nat.mul_le_mul_right _ h2
      omega
    simp only [flatP, List.length_cons, bnd]
    omega
theorem flatMap_cons_perm {α β : Type} (f : α → β) (g : α → List β) : ∀ l : List α, (l.map f ++ l.flatMap g).Perm (l.flatMap fun x => f x :: g x)
  | [] => .nil
  | x :: l => by
    have ih := flatMap_cons_perm f g l
    simp only [List.map_cons, List.flatMap_cons, List.cons_append]
    refine .cons _ ?_
    have : (l.map f ++ (g x ++ l.flatMap g)).Perm (g x ++ (l.map f ++ l.flatMap g)) := by
      rw [← List.append_assoc, ← List.append_assoc]
      exact List.perm_append_comm.append_right _
    exact this.trans (ih.append_left _)
/-- by levels, the same parts -/
theorem lvls_perm : ∀ (n : Nat) (l : List PyData), (lvls n l).Perm (l.flatMap (flatP n))
  | 0, l => by
    have : l.flatMap (flatP 0) = [] := by
      induction l with
      | nil => rfl
      | cons x l ih => rw [List.flatMap_cons, ih]; rfl
    rw [this]
    exact .nil
  | n + 1, l => by
    have ih := lvls_perm n (down l)
    have h1 : (down l).flatMap (flatP n) = l.flatMap fun x => (kids x).flatMap (flatP n) := by
      unfold down
      rw [List.flatMap_assoc]
    rw [h1] at ih
    have h2 := flatMap_cons_perm (fun x : PyData => x) (fun x => (kids x).flatMap (flatP n)) l
    rw [List.map_id'] at h2
    exact (ih.append_left l).trans h2
end K5

namespace K5
open PySem PySem.Spec PyProof.Rows L2 GR WX
/-- any walk over a list: what a turn does, told by body with what is to hold behind it -/
theorem walk_body {K : PySem.W.Frag} {a : Addr} {xs : List V} {body : V → Hp → (Hp → Prop) → Prop} {H0 : Hp} {Qd : Hp → Prop} (Pv : Nat → Hp → Prop) (h0 : Pv 0 H0) (hl : ∀ i H, i ≤ xs.length → Pv i H → SqL K H a xs)
    (hs : ∀ i x H, xs[i]? = some x → Pv i H → body x H (Pv (i + 1))) (hd : ∀ H, Pv xs.length H → Qd H) :
    ∃ W : Nat → Nat → Hp → Prop, (∃ m, W 0 m H0) ∧ ∀ i m H, W i m H →
      ((Itl K a).stop i H ∧ Qd H) ∨ ((Itl K a).go i H ∧ ∃ Nx : Hp → Prop, (∀ H', Nx H' → ∃ m', m' < m ∧ W (i + 1) m' H') ∧ ∀ x H', (Itl K a).yld i H x H' → body x H' Nx) := by
  have w := walk_list (K := K) (a := a) (xs := xs)
  refine ⟨fun i m H => m = xs.length - i ∧ i ≤ xs.length ∧ Pv i H, ⟨xs.length, rfl, Nat.zero_le _, h0⟩, ?_⟩
  rintro i m H ⟨rfl, hi, p⟩
  have q := hl i H hi p
  by_cases hlt : i < xs.length
  · refine .inr ⟨w.goes i H hlt q, Pv (i + 1), fun H' p' => ⟨xs.length - (i + 1), by omega, rfl, hlt, p'⟩, fun x H' y => ?_⟩
    obtain ⟨rfl, hx⟩ := w.yields i H x H' hlt q y
    exact hs i x _ hx p
  · obtain rfl : i = xs.length := by omega
    exact .inl ⟨w.stops H q, hd H p⟩
theorem Ex.kept {K : PySem.W.Frag} {H H' : Hp} {zs : List Str} {n : Nat} {x : PyData} {v : V} (s : KeepT H H') (h : Ex zs n x) (d : Dp K H v x) : Dp K H' v x := dp_keep s _ _ h.flat d
theorem flat_all {zs : List Str} {n : Nat} {xs : List PyData} (h : ∀ x, x ∈ xs → Ex zs n x) : flatDs xs = true := flatDs_of fun x hx => (h x hx).flat
theorem down_take {xs : List PyData} {i : Nat} {x : PyData} (h : xs[i]? = some x) : down (xs.take (i + 1)) = down (xs.take i) ++ kids x := by
  unfold down
  rw [List.take_add_one, h, List.flatMap_append]
  simp
theorem down_len {zs : List Str} {n : Nat} {xs : List PyData} (h : ∀ x, x ∈ xs → Ex zs (n + 1) x) : (down xs).length ≤ 6 * xs.length := by
  unfold down
  rw [List.length_flatMap]
  have := sum_le (fun y => (kids y).length) 6 xs fun y hy => ((h y hy).kids).2
  omega
theorem down_take_le (xs : List PyData) (i : Nat) : (down (xs.take i)).length ≤ (down xs).length := by
  have : down xs = down (xs.take i) ++ down (xs.drop i) := by
    unfold down
    rw [← List.flatMap_append, List.take_append_drop]
  rw [this, List.length_append]
  omega
theorem take_snoc {α : Type} {l : List α} {j : Nat} {x : α} (h : l[j]? = some x) : l.take (j + 1) = l.take j ++ [x] := by
  rw [List.take_add_one, h]
  rfl
theorem down_ex {zs : List Str} {n : Nat} {xs : List PyData} (h : ∀ x, x ∈ xs → Ex zs (n + 1) x) : ∀ y, y ∈ down xs → Ex zs n y := by
  intro y hy
  obtain ⟨x, hx, hy⟩ := List.mem_flatMap.mp hy
  exact ((h x hx).kids).1 y hy
section
variable {P : Program} {w : World} {K : PySem.W.Frag} {mg : Str → Option Value} {base : Heap}
abbrev s_contained : Stmt := topS 4
theorem sc_contained : FnScope ["expression"] ["expression"] (defScope s_contained) := ⟨rfl, rfl, rfl, by decide +kernel, rfl, by decide +kernel, by decide +kernel⟩
def sp_contained (K : PySem.W.Frag) : Sp := fun vs H Q _ => ∃ (v : V) (x : PyData) (zs : List Str) (n : Nat), vs = [v] ∧ Dp K H v x ∧ Ex zs (n + 1) x ∧ ∀ H' p us, Same H H' → H p = none → H' p = some (.lst us) → DpAll K H' us (kids x) → Q (.ref p) H'
theorem ok_contained {f fc : Addr} {fd fdc : FuncData} {k : Nat} (F : Fun K "contained" "contained" s_contained f fd) (Gc : FnOk P w K mg base CX0 k fc fdc ["expression", "wanted"] (sp_contained_of K)) (gc : mg "contained_of" = some (.ref fc)) (Kc : PySem.W.keepIn K (.ref fc) = true) (bc : Binds K fdc ["expression", "wanted"] []) {aP : Addr} (mALL : mg "ALL_PARTS" = some (.ref aP)) (TA : ∀ H, SqT K H aP (W2.map V.str)) :
    FnOk P w K mg base CX0 (k + 1) f fd ["expression"] (sp_contained K) := by
  have nd := sc_contained.nd
  refine F.ok sc_contained (fun vs H Q E h => ?_) (fun cdv A outer s H vs Q E hr h => ?_)
  · obtain ⟨v, x, zs, n, rfl, _⟩ := h
    rfl
  obtain ⟨v, x, zs, n, rfl, hd, he, q⟩ := h
  refine ⟨_, (pss_one (ps_ret (pe_call Gc hr (by rfl) gc Kc bc .nil pass0 (pa_cons (pv 0) (pa_cons (pe_glob rfl mALL (v := .ref aP) rfl) pa_nil))))), ?_⟩
  obtain ⟨wd, fs, rest, hf⟩ := he.form
  have hk := hf.kids
  have hkl := he.kids.2
  have hfl := he.flat
  obtain ⟨rfl, ht, hfit⟩ := hf
  cases hd with
  | tup hS hA =>
  rename_i a vs
  refine ⟨.ref a, rfl, a, aP, wd, fs, W2, rest, rfl, .tup hS hA, ht, hfit, ?_, ?_, TA H, fun H' p us s1 np hp hu => ?_⟩
  · rw [flatD, flatDs, Bool.and_eq_true] at hfl
    exact hfl.2
  · rw [← hk]
    omega
  · rw [← hk] at hu
    exact q H' p us s1 np hp hu
abbrev s_one_deeper : Stmt := topS 6
abbrev N_one : List Str := ["expressions", "expression", "part"]
theorem sc_one_deeper : FnScope N_one ["expressions"] (defScope s_one_deeper) := ⟨rfl, rfl, rfl, by decide +kernel, rfl, by decide +kernel, by decide +kernel⟩
def sp_one_deeper (K : PySem.W.Frag) : Sp := fun vs H Q _ => ∃ (a : Addr) (us : List V) (xs : List PyData) (zs : List Str) (n : Nat), vs = [.ref a] ∧ SqL K H a us ∧ DpAll K H us xs ∧ (∀ x, x ∈ xs → Ex zs (n + 1) x) ∧ xs.length ≤ 2100000 ∧
  ∀ H' p us', Same H H' → H p = none → H' p = some (.lst us') → DpAll K H' us' (down xs) → Q (.ref p) H'
theorem ok_one_deeper {f fc : Addr} {fd fdc : FuncData} {k : Nat} (F : Fun K "one_deeper" "one_deeper" s_one_deeper f fd) (Gc : FnOk P w K mg base CX0 k fc fdc ["expression"] (sp_contained K)) (gc : mg "contained" = some (.ref fc)) (Kc : PySem.W.keepIn K (.ref fc) = true) (bc : Binds K fdc ["expression"] []) :
    FnOk P w K mg base CX0 (k + 1) f fd ["expressions"] (sp_one_deeper K) := by
  have nd := sc_one_deeper.nd
  refine F.ok sc_one_deeper (fun vs H Q E h => ?_) (fun cdv A outer s H vs Q E hr h => ?_)
  · obtain ⟨a, us, xs, zs, n, rfl, _⟩ := h
    rfl
  obtain ⟨a, us, xs, zs, n, rfl, hS, hA, hE, hlen, q⟩ := h
  refine ⟨_, (pss_one (ps_ret (pe_lc2 (own := [("expression", 1), ("part", 2)]) (vs1 := [2]) (wi1 := iList K (tCall (sp_contained K) [] E0 (tCons (tVar 1) tNil))) rfl nd (pi_list (pv 0)) (blkOk_by (N := N_one) (sc := defScope s_one_deeper) (by decide +kernel)) (by decide)
      (fun _ _ _ _ _ => (pg_name (i := 1) nd rfl (Or.inl rfl))) (fun _ _ _ _ _ => pts_nil)
      (fun _ _ _ _ _ => pi_list (pe_call Gc hr (by rfl) gc Kc bc .nil pass0 (pa_cons (pv 1) pa_nil))) (fun _ _ _ _ _ => (pg_name (i := 2) nd rfl (Or.inl rfl))) (fun _ _ _ _ _ => pts_nil)
      (fun _ _ _ _ _ => (pv 2))))), ?_⟩
  refine ⟨.ref a, rfl, a, rfl, ⟨us, hS⟩, fun D nD => ?_⟩
  have hxl := dpAll_len hA
  have hdl := down_len hE
  have full : ∀ H' us', DpAll K H' us' (down xs) → us'.length < sizeLine := fun H' us' h => by
    rw [dpAll_len h, sizeLine_eq]
    omega
  refine walk_body (xs := us) (fun i H' => ∃ acc, H' D = some (.lst acc) ∧ DpAll K H' acc (down (xs.take i)) ∧ Same H H') ?_ ?_ ?_ ?_
  · refine ⟨[], upd_same, ?_, same_upd nD⟩
    rw [List.take_zero]
    exact .nil
  · rintro i H' _ ⟨acc, hD, hdp, kk⟩
    exact kk.seq hS
  · rintro i v H' hv ⟨acc, hD, hdp, kk⟩
    obtain ⟨x, hx, hvx⟩ := dpAll_at hA hv
    have ex := hE x (List.mem_of_getElem? hx)
    refine ⟨rfl, yes_then ⟨v, rfl, v, x, zs, n, rfl, ex.kept (KeepT.of kk) hvx, ex, fun H2 p us2 s2 np hp hu => ⟨p, rfl, ⟨us2, .inl (.inl hp)⟩, ?_⟩⟩⟩
    have hD2 := s2 _ _ hD
    have npD : D ≠ p := ne_of_none hD np
    have hul := dpAll_len hu
    have fd : flatDs (down (xs.take i)) = true := flat_all (n := n) (zs := zs) (down_ex fun y hy => hE y (List.mem_of_mem_take hy))
    have fk : flatDs (kids x) = true := flat_all ex.kids.1
    have hdn := down_take hx
    have hle := down_take_le xs (i + 1)
    rw [hdn, List.length_append] at hle
    refine walk_body (xs := us2) (fun j H3 => ∃ acc', H3 D = some (.lst acc') ∧ DpAll K H3 acc' (down (xs.take i) ++ (kids x).take j) ∧ (∀ b o, b ≠ D → H2 b = some o → H3 b = some o)) ?_ ?_ ?_ ?_
    · refine ⟨acc, hD2, ?_, fun b o _ e => e⟩
      rw [List.take_zero, List.append_nil]
      exact dp_keepAll (KeepT.of s2) _ _ fd hdp
    · rintro j H3 _ ⟨acc', hD3, hdp3, k3⟩
      exact .inl (.inl (k3 _ _ npD.symm hp))
    · rintro j y H3 hy ⟨acc', hD3, hdp3, k3⟩
      obtain ⟨dj, hdj, hyd⟩ := dpAll_at hu hy
      have kt3 : KeepT H2 H3 := ⟨fun b us e => k3 _ _ (ne_of e hD2 (fun z => by cases z)) e, fun b o us e => k3 _ _ (ne_of e hD2 (fun z => by cases z)) e⟩
      have fdj := flatDs_at fk hdj
      have k4 : KeepT H3 (upd H3 D (.lst (acc' ++ [y]))) := KeepT.lst hD3
      have la := dpAll_len hdp3
      rw [List.length_append, List.length_take] at la
      have hj : j < (kids x).length := (List.getElem?_eq_some_iff.mp hdj).1
      refine ⟨rfl, yes_then ⟨y, rfl, acc', hD3, ?_, acc' ++ [y], upd_same, ?_, fun b o hb e => ?_⟩⟩
      · rw [sizeLine_eq]
        omega
      · rw [take_snoc hdj, ← List.append_assoc]
        exact dpAll_append (dp_keepAll k4 _ _ (flatDs_append fd (flatDs_take j fk)) hdp3) (.cons (dp_keep (kt3.trans k4) _ _ fdj hyd) .nil)
      · rw [upd_ne hb]
        exact k3 b o hb e
    · rintro H3 ⟨acc', hD3, hdp3, k3⟩
      rw [hul, List.take_length, ← hdn] at hdp3
      exact ⟨acc', hD3, hdp3, fun b o e => k3 b o (ne_of_none e nD) (s2 _ _ (kk _ _ e))⟩
  · rintro H' ⟨acc, hD, hdp, kk⟩
    rw [hxl, List.take_length] at hdp
    exact q H' D acc kk nD hD hdp
end
end K5

namespace K5
open PySem PySem.Spec PyProof.Rows L2 GR WX
theorem lvls_nil : ∀ n, lvls n [] = []
  | 0 => rfl
  | n + 1 => by
    show [] ++ lvls n (down []) = []
    rw [List.nil_append, show down [] = [] from rfl, lvls_nil n]
theorem lvls_len {zs : List Str} {n : Nat} {x : PyData} (h : Ex zs n x) : (lvls n [x]).length ≤ (flatP n x).length := by
  have := (lvls_perm n [x]).length_eq
  rw [List.flatMap_cons, List.flatMap_nil, List.append_nil] at this
  exact Nat.le_of_eq this
/-- how many levels there are, from l on -/
def deepN : Nat → List PyData → Nat
  | 0, _ => 0
  | n + 1, l => if l.isEmpty then 0 else 1 + deepN n (down l)
theorem deepN_nil : ∀ n, deepN n [] = 0
  | 0 => rfl
  | n + 1 => rfl
section
variable {P : Program} {w : World} {K : PySem.W.Frag} {mg : Str → Option Value} {base : Heap}
abbrev s_all_parts : Stmt := topS 7
theorem sc_all_parts : FnScope ["expression", "found", "level"] ["expression"] (defScope s_all_parts) := ⟨rfl, rfl, rfl, by decide +kernel, rfl, by decide +kernel, by decide +kernel⟩
def sp_all_parts (K : PySem.W.Frag) : Sp := fun vs H Q _ => ∃ (v : V) (x : PyData) (zs : List Str) (n : Nat), vs = [v] ∧ Dp K H v x ∧ Ex zs n x ∧ (flatP n x).length ≤ 2100000 ∧ ∀ H' p us, Same H H' → H p = none → H' p = some (.lst us) → DpAll K H' us (lvls n [x]) → Q (.ref p) H'
theorem ok_all_parts {f fc : Addr} {fd fdc : FuncData} {k : Nat} (F : Fun K "all_parts" "all_parts" s_all_parts f fd) (Gc : FnOk P w K mg base CX0 k fc fdc ["expressions"] (sp_one_deeper K)) (gc : mg "one_deeper" = some (.ref fc)) (Kc : PySem.W.keepIn K (.ref fc) = true) (bc : Binds K fdc ["expressions"] []) :
    FnOk P w K mg base CX0 (k + 1) f fd ["expression"] (sp_all_parts K) := by
  have nd := sc_all_parts.nd
  refine F.ok sc_all_parts (fun vs H Q E h => ?_) (fun cdv A outer s H vs Q E hr h => ?_)
  · obtain ⟨v, x, zs, n, rfl, _⟩ := h
    rfl
  obtain ⟨v, x, zs, n, rfl, hd, he, hb, q⟩ := h
  have hll := lvls_len he
  refine ⟨_, (pss_cons (ps_set (i := 1) nd rfl (.inl rfl) (pe_lst pa_nil))
      (pss_cons (ps_set (i := 2) nd rfl (.inl rfl) (pe_lst (pa_cons (pv 0) pa_nil)))
      (pss_cons (ps_while PassesOwn.never (pt_truth (pv 2) (fun _ => rfl))
      (pss_cons (ps_expr (pe_bm PySem.F.plainAttrs_list PySem.F.slot_list_extend PySem.F.type_list_extend mt_extend (pv 1) (pa_cons (pv 2) pa_nil)))
        (pss_one (ps_set (i := 2) nd rfl (.inl rfl) (pe_call Gc hr (by rfl) gc Kc bc .nil pass0 (pa_cons (pv 2) pa_nil))))))
      (pss_one (ps_ret (pv 1)))))), ?_⟩
  refine ⟨Nat.zero_le _, fun fo nfo => ?_⟩
  have sf := same_upd (o := .lst []) nfo
  have hf0 : upd H fo (.lst []) fo = some (.lst []) := upd_same
  refine ⟨v, rfl, small_le (show 1 ≤ 1000 by decide), fun lv nlv => ?_⟩
  have sl := same_upd (o := .lst [v]) nlv
  have hfl := ne_of_none hf0 nlv
  refine ⟨fun m σ H' => ∃ (lv : Addr) (acc us : List V) (done xs : List PyData), σ = [some v, some (.ref fo), some (.ref lv)] ∧ H' fo = some (.lst acc) ∧ H' lv = some (.lst us) ∧ fo ≠ lv ∧ DpAll K H' acc done ∧ DpAll K H' us xs ∧ (∀ y, y ∈ xs → Ex zs m y) ∧ (∀ y, y ∈ done → flatD y = true) ∧ done ++ lvls m xs = lvls n [x] ∧ (∀ b o, b ≠ fo → H b = some o → H' b = some o), ⟨n, ?_⟩, ?_⟩
  · refine ⟨lv, [], [v], [], [x], rfl, sl _ _ hf0, upd_same, hfl, .nil, .cons (he.kept (KeepT.of (sf.trans sl)) hd) .nil, ?_, fun y hy => (nomatch hy), rfl, fun b o _ e => sl _ _ (sf _ _ e)⟩
    intro y hy
    rw [List.mem_singleton.mp hy]
    exact he
  · rintro m σ H' ⟨lv, acc, us, done, xs, rfl, hfo, hlv, hne, hA, hX, hE, hF, hL, kk⟩
    have lA := dpAll_len hA
    have lX := dpAll_len hX
    refine ⟨.ref lv, rfl, !us.isEmpty, .inl ⟨us, .inl (.inl hlv), rfl⟩, ?_⟩
    cases us with
    | nil =>
      have hx : xs = [] := by
        cases hX
        rfl
      subst hx
      refine iteF ⟨.ref fo, rfl, q H' fo acc (fun b o e => kk b o (ne_of_none e nfo) e) nfo hfo ?_⟩
      rw [lvls_nil, List.append_nil] at hL
      rw [← hL]
      exact hA
    | cons u0 ur =>
      have hx : xs ≠ [] := by
        intro z
        rw [z] at lX
        cases lX
      obtain ⟨x0, hx0⟩ := List.exists_mem_of_ne_nil xs hx
      obtain ⟨m', rfl⟩ : ∃ m', m = m' + 1 := by
        cases m with
        | zero => cases hE x0 hx0
        | succ m' => exact ⟨m', rfl⟩
      have hl2 : done.length + xs.length ≤ 2100000 := by
        have := congrArg List.length hL
        rw [List.length_append, lvls, List.length_append] at this
        omega
      have hu := upd_same (H := H') (a := fo) (o := .lst (acc ++ u0 :: ur))
      refine iteT ⟨fun σ' H'' => ∃ (lv : Addr) (acc us : List V) (done xs : List PyData), σ' = [some v, some (.ref fo), some (.ref lv)] ∧ H'' fo = some (.lst acc) ∧ H'' lv = some (.lst us) ∧ fo ≠ lv ∧ DpAll K H'' acc done ∧ DpAll K H'' us xs ∧ (∀ y, y ∈ xs → Ex zs m' y) ∧ (∀ y, y ∈ done → flatD y = true) ∧ done ++ lvls m' xs = lvls n [x] ∧ (∀ b o, b ≠ fo → H b = some o → H'' b = some o),
        fun σ' H'' z => ⟨m', Nat.lt_succ_self m', z⟩, ?_⟩
      refine ⟨.ref fo, rfl, .inl ⟨rfl, _, .inl (.inl hfo)⟩, .ref lv, rfl, fo, lv, acc, u0 :: ur, rfl, rfl, hfo, hlv, ?_, ?_⟩
      · rw [lA, lX, sizeLine_eq]
        omega
      have k1 : KeepT H' (upd H' fo (.lst (acc ++ u0 :: ur))) := KeepT.lst hfo
      have hlv1 : upd H' fo (.lst (acc ++ u0 :: ur)) lv = some (.lst (u0 :: ur)) := by
        rw [upd_ne hne.symm]
        exact hlv
      have fX := flat_all hE
      have hA1 := dpAll_append (dp_keepAll k1 _ _ (flatDs_of hF) hA) (dp_keepAll k1 _ _ fX hX)
      have hX1 := dp_keepAll k1 _ _ fX hX
      refine ⟨.ref lv, rfl, lv, u0 :: ur, xs, zs, m', rfl, .inl (.inl hlv1), hX1, hE, by omega, fun H2 p us' s2 np hp hu' => ?_⟩
      have hfo2 := s2 _ _ hu
      refine ⟨p, acc ++ u0 :: ur, us', done ++ xs, down xs, rfl, hfo2, hp, ne_of_none hu np, ?_, hu', down_ex hE, ?_, ?_, fun b o hb e => ?_⟩
      · refine dp_keepAll (KeepT.of s2) _ _ (flatDs_append (flatDs_of hF) fX) hA1
      · intro y hy
        rcases List.mem_append.mp hy with hy | hy
        · exact hF y hy
        · exact (hE y hy).flat
      · rw [List.append_assoc]
        exact hL
      · refine s2 _ _ ?_
        rw [upd_ne hb]
        exact kk b o hb e
end
end K5

namespace K5
open PySem PySem.Spec PyProof.Rows L2 GR WX
section
variable {P : Program} {w : World} {K : PySem.W.Frag} {mg : Str → Option Value} {base : Heap}
abbrev s_parts_of : Stmt := topS 8
theorem sc_parts_of : FnScope ["expression"] ["expression"] (defScope s_parts_of) := ⟨rfl, rfl, rfl, by decide +kernel, rfl, by decide +kernel, by decide +kernel⟩
def sp_parts_of (K : PySem.W.Frag) : Sp := fun vs H Q _ => ∃ (v : V) (x : PyData) (zs : List Str) (n : Nat), vs = [v] ∧ Dp K H v x ∧ Ex zs n x ∧ (flatP n x).length ≤ 2100000 ∧ ∀ H', Same H H' → Q (.int ((lvls n [x]).length : Int)) H'
theorem ok_parts_of {f fc : Addr} {fd fdc : FuncData} {k : Nat} (F : Fun K "parts_of" "parts_of" s_parts_of f fd) (Gc : FnOk P w K mg base CX0 k fc fdc ["expression"] (sp_all_parts K)) (gc : mg "all_parts" = some (.ref fc)) (Kc : PySem.W.keepIn K (.ref fc) = true) (bc : Binds K fdc ["expression"] []) (mlen : mg "len" = none) :
    FnOk P w K mg base CX0 (k + 1) f fd ["expression"] (sp_parts_of K) := by
  have nd := sc_parts_of.nd
  refine F.ok sc_parts_of (fun vs H Q E h => ?_) (fun cdv A outer s H vs Q E hr h => ?_)
  · obtain ⟨v, x, zs, n, rfl, _⟩ := h
    rfl
  obtain ⟨v, x, zs, n, rfl, hd, he, hb, q⟩ := h
  refine ⟨_, (pss_one (ps_ret (pe_callB call_len_seq (by rfl) mlen PySem.boot_len (pa_cons (pe_call Gc hr (by rfl) gc Kc bc .nil pass0 (pa_cons (pv 0) pa_nil)) pa_nil)))), ?_⟩
  refine ⟨v, rfl, v, x, zs, n, rfl, hd, he, hb, fun H' p us s1 np hp hu => ⟨p, us, rfl, .inl (.inl (.inl hp)), ?_⟩⟩
  rw [dpAll_len hu]
  exact q H' s1
abbrev s_depth_of : Stmt := topS 9
theorem sc_depth_of : FnScope ["expression", "depth", "level"] ["expression"] (defScope s_depth_of) := ⟨rfl, rfl, rfl, by decide +kernel, rfl, by decide +kernel, by decide +kernel⟩
def sp_depth_of (K : PySem.W.Frag) : Sp := fun vs H Q _ => ∃ (v : V) (x : PyData) (zs : List Str) (n : Nat), vs = [v] ∧ Dp K H v x ∧ Ex zs n x ∧ (flatP n x).length ≤ 2100000 ∧ ∀ H', Same H H' → Q (.int (deepN n [x] : Int)) H'
theorem ok_depth_of {f fc : Addr} {fd fdc : FuncData} {k : Nat} (F : Fun K "depth_of" "depth_of" s_depth_of f fd) (Gc : FnOk P w K mg base CX0 k fc fdc ["expressions"] (sp_one_deeper K)) (gc : mg "one_deeper" = some (.ref fc)) (Kc : PySem.W.keepIn K (.ref fc) = true) (bc : Binds K fdc ["expressions"] []) :
    FnOk P w K mg base CX0 (k + 1) f fd ["expression"] (sp_depth_of K) := by
  have nd := sc_depth_of.nd
  refine F.ok sc_depth_of (fun vs H Q E h => ?_) (fun cdv A outer s H vs Q E hr h => ?_)
  · obtain ⟨v, x, zs, n, rfl, _⟩ := h
    rfl
  obtain ⟨v, x, zs, n, rfl, hd, he, hb, q⟩ := h
  refine ⟨_, (pss_cons (ps_set (i := 1) nd rfl (.inl rfl) pe_int)
      (pss_cons (ps_set (i := 2) nd rfl (.inl rfl) (pe_lst (pa_cons (pv 0) pa_nil)))
      (pss_cons (ps_while PassesOwn.never (pt_truth (pv 2) (fun _ => rfl))
      (pss_cons (ps_aug (i := 1) nd rfl (.inl rfl) pe_int ip_add)
        (pss_one (ps_set (i := 2) nd rfl (.inl rfl) (pe_call Gc hr (by rfl) gc Kc bc .nil pass0 (pa_cons (pv 2) pa_nil))))))
      (pss_one (ps_ret (pv 1)))))), ?_⟩
  refine ⟨v, rfl, small_le (show 1 ≤ 1000 by decide), fun lv nlv => ?_⟩
  have sl := same_upd (o := .lst [v]) nlv
  refine ⟨fun m σ H' => ∃ (i : Nat) (lv : Addr) (us : List V) (xs : List PyData), σ = [some v, some (.int (i : Int)), some (.ref lv)] ∧ H' lv = some (.lst us) ∧ DpAll K H' us xs ∧ (∀ y, y ∈ xs → Ex zs m y) ∧ (lvls m xs).length ≤ 2100000 ∧ i + deepN m xs = deepN n [x] ∧ Same H H', ⟨n, ?_⟩, ?_⟩
  · have := lvls_len he
    refine ⟨0, lv, [v], [x], rfl, upd_same, .cons (he.kept (KeepT.of sl) hd) .nil, ?_, by omega, Nat.zero_add _, sl⟩
    intro y hy
    rw [List.mem_singleton.mp hy]
    exact he
  · rintro m σ H' ⟨i, lv, us, xs, rfl, hlv, hX, hE, hb2, hi, kk⟩
    have lX := dpAll_len hX
    refine ⟨.ref lv, rfl, !us.isEmpty, .inl ⟨us, .inl (.inl hlv), rfl⟩, ?_⟩
    cases us with
    | nil =>
      have hx : xs = [] := by
        cases hX
        rfl
      subst hx
      rw [deepN_nil, Nat.add_zero] at hi
      rw [hi]
      exact iteF ⟨_, rfl, q H' kk⟩
    | cons u0 ur =>
      have hx : xs ≠ [] := by
        intro z
        rw [z] at lX
        cases lX
      obtain ⟨x0, hx0⟩ := List.exists_mem_of_ne_nil xs hx
      obtain ⟨m', rfl⟩ : ∃ m', m = m' + 1 := by
        cases m with
        | zero => cases hE x0 hx0
        | succ m' => exact ⟨m', rfl⟩
      have hl : (lvls (m' + 1) xs).length = xs.length + (lvls m' (down xs)).length := by
        rw [lvls, List.length_append]
      have hdn := down_len hE
      have hd1 : deepN (m' + 1) xs = 1 + deepN m' (down xs) := by
        rw [deepN, if_neg]
        cases xs with
        | nil => exact absurd rfl hx
        | cons y ys => exact Bool.false_ne_true
      refine iteT ⟨fun σ' H'' => ∃ (i : Nat) (lv : Addr) (us : List V) (xs : List PyData), σ' = [some v, some (.int (i : Int)), some (.ref lv)] ∧ H'' lv = some (.lst us) ∧ DpAll K H'' us xs ∧ (∀ y, y ∈ xs → Ex zs m' y) ∧ (lvls m' xs).length ≤ 2100000 ∧ i + deepN m' xs = deepN n [x] ∧ Same H H'',
        fun σ' H'' z => ⟨m', Nat.lt_succ_self m', z⟩, ?_⟩
      refine ⟨.int (i : Int), rfl, (i : Int), 1, rfl, rfl, .ref lv, rfl, lv, u0 :: ur, xs, zs, m', rfl, .inl (.inl hlv), hX, hE, by omega, fun H2 p us' s2 np hp hu' => ?_⟩
      refine ⟨i + 1, p, us', down xs, rfl, hp, hu', down_ex hE, by omega, by omega, kk.trans s2⟩
end
end K5

/-! Sets of texts that can be walked: what one more element does to the object, for any kind of key. -/
namespace TX
open PySem PySem.Spec PyProof.Rows L2
section
variable {P : Program} {w : World} {A : Around} {E : Value → Shared → Prop} {s : Shared} {a : Addr}
/-- the object at a is the same set with these entries, and its table is as good as before -/
structure Grown (h0 h : Heap) (a : Addr) (o : Obj) (t : SetTable) (l : List (Int × Value)) : Prop where
  same : Heap.SameBut a h0 h
  at' : ∃ es ep t', h.get? a = some { o with data := .set es ep t' } ∧ es.toList.Perm l ∧ t'.fits es.size = true ∧ (Ris t.place.toList → Ris t'.place.toList) ∧ t'.led = t.led
theorem got {h : Heap} {o : Obj} {es es' : Array (Int × Value)} {ep : Nat} {t t' : SetTable} (ho : h.get? a = some o) (hd : o.data = .set es ep t) :
    (h.update a (Obj.putSet es' t')).get? a = some { o with data := .set es' (ep + 1) t' } := store_at ho hd
/-- laid down, and laid anew where the table is too full -/
theorem tail {g : Bool → Sem Unit} (hg : ∀ (b : Bool) (s₁ : Shared) (Q' : Unit → Shared → Prop), Q' () s₁ → wpAny (model P w) A (g b) Q' E s₁) {o : Obj} {es es1 : Array (Int × Value)} {ep : Nat} {t t0 t2 : SetTable} (ho : s.heap.get? a = some o) (hd : o.data = .set es ep t)
    {l : List (Int × Value)} (pm : es1.toList.Perm l) (small : es1.size < scanBound) (fit : t2.fits es1.size = true) (ris : Ris t0.place.toList → Ris t2.place.toList) (led : t2.led = t0.led) {d : Bool} {R : Option Bool → Shared → Prop}
    (done : ∀ h', Grown s.heap h' a o t0 l → R (some true) { s with heap := h' }) :
    wpAny (model P w) A (do
        storeSet a es1 t2
        if (!d && t2.tooFull) = true then do
            g (relayAll t2 es1 (SetTable.grown es1.size)).2.2
            storeSet a (relayAll t2 es1 (SetTable.grown es1.size)).1 (relayAll t2 es1 (SetTable.grown es1.size)).2.1
            pure (some true)
          else pure (some true)) R E s := by
  have h1 := got (es' := es1) (t' := t2) ho hd
  have b1 := Heap.SameBut.update s.heap a (Obj.putSet es1 t2)
  apply wpAny_bind
  refine wpAny_storeSet_of ho hd ?_ (fits_of_scanBound small)
  by_cases full : (!d && t2.tooFull) = true
  · rw [if_pos full]
    have p2 := relayAll_perm t2 es1 (SetTable.grown es1.size)
    have small2 : (relayAll t2 es1 (SetTable.grown es1.size)).1.size < scanBound := by
      have := p2.length_eq
      rw [Array.length_toList, Array.length_toList] at this
      omega
    apply wpAny_bind
    refine hg _ _ _ ?_
    apply wpAny_bind
    refine wpAny_storeSet_of h1 rfl ?_ (fits_of_scanBound small2)
    exact wpAny_pure (done _ ⟨b1.trans (Heap.SameBut.update _ a _), _, _, _, (got (o := { o with data := .set es1 (ep + 1) t2 }) h1 rfl : _), p2.trans pm, relayAll_fits t2 es1 _, fun _ => relayAll_ris t2 es1 _, (relayAll_led t2 es1 _).trans led⟩)
  · rw [if_neg full]
    exact wpAny_pure (done _ ⟨b1, es1, _, t2, h1, pm, fit, ris, led⟩)

/-- one more element, or none where it is in -/
theorem add {K : Type} [DecidableEq K] {knd : PySem.KeyKind P w K} {o : Obj} {es : Array (Int × Value)} {ep : Nat} {t : SetTable} {k : K} {v : Value} {Q : Bool → Shared → Prop} (ho : s.heap.get? a = some o) (hd : o.data = .set es ep t) (hel : ElemsOf knd es.toList)
    (small : es.size + 1 < scanBound) (hf : t.fits es.size = true) (hk : knd.is k v = true) (hsc : v.scannable = true) (old : (∃ e ∈ es.toList, knd.is k e.2 = true) → Q false s)
    (new : (∀ e ∈ es.toList, knd.is k e.2 = false) → ∀ h', Grown s.heap h' a o t ((knd.hash k, v) :: es.toList) → Q true { s with heap := h' }) : wpAny (model P w) A (setAddHashed a v (knd.hash k)) Q E s := by
  unfold setAddHashed setAddHashedIn
  apply wpAny_holding
  apply wpAny_bind
  refine wpAny_setState_of ho hd hf ?_
  dsimp only
  rw [byScan_of hsc (by omega) hel]
  simp only [↓reduceIte]
  unfold setAddByScan
  apply wpAny_bind
  apply wpAny_bind
  apply wpAny_rule
  apply wpAny_bind
  refine wpAny_setScan_of hk ho hd hf hel ?_
  cases hfi : List.findIdx? (fun e => knd.is k e.2) es.toList with
  | some j =>
    dsimp only
    obtain ⟨hj, pj, _⟩ := List.findIdx?_eq_some_iff_getElem.mp hfi
    exact wpAny_pure (wpAny_pure (old ⟨_, List.getElem_mem hj, pj⟩))
  | none =>
    dsimp only
    have out : ∀ e ∈ es.toList, knd.is k e.2 = false := fun e he => by
      have := List.findIdx?_eq_none_iff.mp hfi e he
      simpa using this
    have pm : (layNew t es (knd.hash k) v).1.toList.Perm ((knd.hash k, v) :: es.toList) := by
      have := layNew_perm t es (knd.hash k) v
      rw [Array.toList_push] at this
      exact this.trans (List.perm_append_singleton _ _)
    have small1 : (layNew t es (knd.hash k) v).1.size < scanBound := by
      have := pm.length_eq
      rw [Array.length_toList, List.length_cons, Array.length_toList] at this
      omega
    have fit := layNew_fits t es (knd.hash k) v
    have ris := layNew_ris t es (knd.hash k) v
    have led := layNew_led t es (knd.hash k) v
    have wg : ∀ (b : Bool) {s₁ : Shared} {Q' : Unit → Shared → Prop}, Q' () s₁ → wpAny (model P w) A (match b with | true => rule "set.scan.the-table-gave-way" | false => pure ()) Q' E s₁ := fun b s₁ Q' q => by
      cases b
      · exact wpAny_pure q
      · exact wpAny_rule q
    generalize layNew t es (knd.hash k) v = Z at pm small1 fit ris led ⊢
    obtain ⟨es1, t1, dummy, gave⟩ := Z
    dsimp only at pm small1 fit ris led ⊢
    apply wpAny_bind
    refine wg _ ?_
    have gave' : ∀ (b : Bool) (s₁ : Shared) (Q' : Unit → Shared → Prop), Q' () s₁ → wpAny (model P w) A (match b with | true => rule "set.scan.the-table-gave-way" | false => pure ()) Q' E s₁ := fun b s₁ Q' q => wg b q
    by_cases pl : t1.plain = true
    · rw [if_pos pl]
      apply wpAny_bind
      rw [hashByValue_scannable 8 hsc]
      apply wpAny_pure
      cases plainKind v with
      | true =>
        simp only [if_true]
        refine tail gave' ho hd pm small1 fit ris led ?_
        intro h' G
        exact wpAny_pure (new out h' G)
      | false =>
        simp only [Bool.false_eq_true, if_false]
        refine tail gave' ho hd pm small1 (SetTable.fits_plain_off fit) ris led ?_
        intro h' G
        exact wpAny_pure (new out h' G)
    · rw [if_neg pl]
      apply wpAny_bind
      apply wpAny_pure
      simp only [↓reduceIte]
      refine tail gave' ho hd pm small1 fit ris led ?_
      intro h' G
      exact wpAny_pure (new out h' G)
end
end TX

/-! Sets of texts: new, one more, sorted. -/
namespace TX
open PySem PySem.Spec PyProof.Rows L2
/-- these entries are the texts l -/
structure Els (w : World) (es : List (Int × Value)) (l : List Str) : Prop where
  each : ∀ e ∈ es, ∃ x u, e.2 = Value.str x u ∧ e.1 = hashStr w x
  perm : (es.map fun e => PyProof.Rows.strOf e.2).Perm l
/-- the set of the texts l at a; it can be walked -/
def SetS (w : World) (h : Heap) (a : Addr) (l : List Str) : Prop :=
  ∃ o es ep t, h.get? a = some o ∧ o.ExactSet ∧ o.data = .set es ep t ∧ Els w es.toList l ∧ l.Nodup ∧ es.size < scanBound ∧ t.fits es.size = true ∧ Ris t.place.toList ∧ (w.params.followText "set-order" = true ∨ t.led = true)
theorem SetS.keep {w : World} {h h' : Heap} {a : Addr} {l : List Str} (R : SetS w h a l) (k : ∀ o, h.get? a = some o → h'.get? a = some o) : SetS w h' a l := by
  obtain ⟨o, es, ep, t, ho, r⟩ := R
  exact ⟨o, es, ep, t, k o ho, r⟩
theorem isStr {P : Program} {w : World} (x : Str) (u : Tok) : (PySem.strKind P w).is x (.str x u) = true := by
  show Value.isStrOf x (.str x u) = true
  simp [Value.isStrOf]
theorem Els.kind {P : Program} {w : World} {es : List (Int × Value)} {l : List Str} (G : Els w es l) : ElemsOf (PySem.strKind P w) es := by
  intro e he
  obtain ⟨x, u, e2, e1⟩ := G.each e he
  exact ⟨⟨x, by rw [e2]; exact isStr x u, e1⟩, by rw [e2]; rfl⟩
theorem Els.mem {P : Program} {w : World} {es : List (Int × Value)} {l : List Str} (G : Els w es l) (x : Str) : (∃ e ∈ es, (PySem.strKind P w).is x e.2 = true) ↔ x ∈ l := by
  rw [← G.perm.mem_iff, List.mem_map]
  constructor
  · rintro ⟨e, he, q⟩
    obtain ⟨y, u, e2, _⟩ := G.each e he
    refine ⟨e, he, ?_⟩
    rw [e2] at q ⊢
    exact (PySem.strKind P w).inj (.str y u) y x (isStr y u) q
  · rintro ⟨e, he, q⟩
    obtain ⟨y, u, e2, _⟩ := G.each e he
    refine ⟨e, he, ?_⟩
    rw [e2] at q ⊢
    rw [← q]
    exact isStr y u
theorem Els.more {P : Program} {w : World} {es es' : List (Int × Value)} {l : List Str} {x : Str} {u : Tok} (G : Els w es l) (p : es'.Perm (((PySem.strKind P w).hash x, Value.str x u) :: es)) : Els w es' (x :: l) := by
  constructor
  · intro e he
    rcases List.mem_cons.mp (p.mem_iff.mp he) with rfl | he
    · exact ⟨x, u, rfl, rfl⟩
    · exact G.each e he
  · exact (p.map _).trans (G.perm.cons x)
/-- x put in -/
def put (x : Str) (l : List Str) : List Str := if x ∈ l then l else x :: l
theorem mem_put {x y : Str} {l : List Str} : y ∈ put x l ↔ y = x ∨ y ∈ l := by
  unfold put
  by_cases h : x ∈ l
  · rw [if_pos h]
    exact ⟨.inr, fun z => z.elim (fun e => e ▸ h) id⟩
  · rw [if_neg h, List.mem_cons]
theorem put_nodup {x : Str} {l : List Str} (h : l.Nodup) : (put x l).Nodup := by
  unfold put
  by_cases q : x ∈ l
  · rw [if_pos q]
    exact h
  · rw [if_neg q]
    exact List.nodup_cons.mpr ⟨q, h⟩
theorem put_length {x : Str} {l : List Str} : (put x l).length ≤ l.length + 1 := by
  unfold put
  by_cases q : x ∈ l
  · rw [if_pos q]
    omega
  · rw [if_neg q, List.length_cons]
    exact Nat.le_refl _
section
variable {P : Program} {w : World} {A : Around} {E : Value → Shared → Prop} {s : Shared} {a : Addr} {l : List Str}
theorem SetS.typeIs (R : SetS w s.heap a l) : s.TypeIs (.ref a) "set" := by
  obtain ⟨o, es, ep, t, ho, hx, _⟩ := R
  exact ⟨o, ho, hx.1⟩
theorem call_add {x : Str} {u : Tok} {Q : Value → Shared → Prop} (R : SetS w s.heap a l) (small : l.length + 1 < scanBound) (hQ : ∀ h', Heap.SameBut a s.heap h' → SetS w h' a (put x l) → Q .none { s with heap := h', toks := s.toks + 1 }) :
    wpAny (model P w) A (call (.builtin "set.add") [.ref a, .str x u]) Q E s := by
  refine wpAny_call_entry F.slot_set_add R.typeIs F.entry_set_add ?_ (F.args_set_add_2 _ _)
  obtain ⟨o, es, ep, t, ho, hx, hd, G, nd, hb, hf, hr, hl⟩ := R
  unfold Builtin.«set.add» Builtin.Frozenset.oneOther
  simp only [List.isEmpty_nil, bind_assoc]
  unfold Builtin.Frozenset.addrOf setAdd
  apply wpAny_bind
  apply wpAny_pure
  try dsimp only
  apply wpAny_bind
  apply wpAny_pure
  try dsimp only
  apply wpAny_bind
  apply wpAny_holding
  apply wpAny_bind
  refine (PySem.strKind P w).pyHash (isStr x u) ?_
  have sz : es.size = l.length := by
    have := G.perm.length_eq
    rw [List.length_map, Array.length_toList] at this
    exact this
  refine add (s := { s with toks := s.toks + 1 }) (knd := PySem.strKind P w) (k := x) (v := .str x u) ho hd G.kind (by omega) hf (isStr x u) rfl ?_ ?_
  · intro hin
    show wpAny _ _ (ret Value.none) _ _ _
    refine wpAny_pure ⟨_, rfl, hQ s.heap (Heap.SameBut.refl a s.heap) ?_⟩
    unfold put
    rw [if_pos ((G.mem x).1 hin)]
    exact ⟨o, es, ep, t, ho, hx, hd, G, nd, hb, hf, hr, hl⟩
  · intro out h' N
    show wpAny _ _ (ret Value.none) _ _ _
    refine wpAny_pure ⟨_, rfl, hQ h' N.same ?_⟩
    have hn : x ∉ l := fun z => by
      obtain ⟨e, he, q⟩ := (G.mem (P := P) x).2 z
      rw [out e he] at q
      cases q
    unfold put
    rw [if_neg hn]
    obtain ⟨es1, ep1, t1, h1, p1, f1, r1, l1⟩ := N.at'
    have sz1 : es1.size = es.size + 1 := by
      have := p1.length_eq
      rw [Array.length_toList, List.length_cons, Array.length_toList] at this
      exact this
    exact ⟨_, es1, ep1, t1, h1, hx, rfl, G.more (P := P) p1, List.nodup_cons.mpr ⟨hn, nd⟩, by omega, f1, r1 hr, hl.imp id fun z => l1.trans z⟩
theorem fresh {h : Heap} (w : World) : SetS w (h.push { cls := .type "set", dict := none, data := .set #[] 0 (.fresh 0 0 (!w.params.followText "set-order")) }) h.objs.size [] := by
  refine ⟨_, #[], 0, _, Heap.get?_push_size _ rfl, ⟨rfl, rfl, rfl⟩, rfl, ⟨fun e he => by simp at he, .nil⟩, .nil, by decide, by rfl, .nil, ?_⟩
  show _ ∨ (!w.params.followText "set-order") = true
  cases w.params.followText "set-order"
  · exact .inr rfl
  · exact .inl rfl
/-- sorted(it) -/
theorem call_sorted {Q : Value → Shared → Prop} (R : SetS w s.heap a l) (hh : A.handled = none) (h64 : l.length < 64)
    (hQ : ∀ s' p (out : Array Value) (c : Nat) (ys : List Str), (∀ b o, s.heap.get? b = some o → s'.heap.get? b = some o) → s'.gens = s.gens → s'.os = s.os → s.heap.objs.size ≤ p → s'.heap.get? p = some (seqObj "list" out c) → StrsAre out.toList ys → ys.Perm l → sortedS ys = true → Q (.ref p) s') :
    wpAny (model P w) A (call (.builtin "sorted") [.ref a]) Q E s := by
  obtain ⟨o, es, ep, t, ho, hx, hd, G, nd, hb, hf, hr, hl⟩ := R
  refine Calls.call_function_entry kind_sorted plain_sorted entry_sorted (args_sorted1 _) ?_
  unfold Builtin.«sorted»
  apply wpAny_bind (m := checkCount "sorted" 1 1 _)
  apply wpAny_pure
  apply wpAny_bind
  refine collect_set (A := A.in1) hh ⟨o, ho, hx.1, hd⟩ hf hb hr hl fun s1 vs k1 hz g1 o1 pm => ?_
  have hS : StrsAre vs (vs.map PyProof.Rows.strOf) := strsAre_map vs fun v hv => by
    obtain ⟨e, he, rfl⟩ := List.mem_map.mp (pm.mem_iff.mp hv)
    obtain ⟨x, u, e2, _⟩ := G.each e he
    exact ⟨x, u, e2⟩
  have pl : (vs.map PyProof.Rows.strOf).Perm l := by
    have q := pm.map PyProof.Rows.strOf
    rw [List.map_map] at q
    exact q.trans G.perm
  have hv : vs.length = l.length := by
    have := pl.length_eq
    rw [List.length_map] at this
    exact this
  apply wpAny_bind
  refine wpAny_newList ?_ (by rw [hv, sizeLine_eq]; omega)
  have hL : (s1.heap.push (seqObj "list" vs.toArray 0)).get? s1.heap.objs.size = some (seqObj "list" vs.toArray 0) := Heap.get?_push_size _ rfl
  apply wpAny_bind
  apply wpAny_holding
  refine wpAny_call_entry slot_list_sort ⟨_, hL, rfl⟩ entry_list_sort (list_sort_treeK strKind_oneLt hL hS.keysOf (fun v₁ v₂ rest e => keyKind_strs (by rw [← e]; exact hS)) (by rw [hv]; exact h64) fun st' hp hs => ⟨_, rfl, ?_⟩) (args_list_sort _)
  obtain ⟨ys, y1, y2, y3⟩ := sorted_out_str hS hp hs
  obtain ⟨c, hc⟩ := sortedHeap_at (vs := vs) (out := (arrOf st').map (·.2)) hL
  refine wpAny_pure ⟨_, rfl, hQ _ s1.heap.objs.size _ c ys (fun b u e => ?_) g1 o1 hz hc y1 (y2.trans pl) y3⟩
  have q := k1 b u e
  have lt := Heap.lt_size q
  show (sortedHeap (s1.heap.push (seqObj "list" vs.toArray 0)) s1.heap.objs.size vs _).get? b = some u
  rw [sortedHeap_old (Nat.ne_of_lt lt) (by rw [size_push']; exact Nat.lt_succ_of_lt lt)]
  exact Heap.get?_push_of_some _ q
end
end TX

/-! Sets of texts as things of the hand layer: a comprehension, sorted. -/
namespace TX
open PySem PySem.Spec PyProof.Rows L2
/-- the set of the texts l at a -/
def SetSO (w : World) (a : Addr) (l : List Str) : HO := .ext fun h => SetS w h a l
theorem so_new {w : World} {P : Program} {H : Hp} {h : Heap} {a : Addr} {l : List Str} (R : SetS w h a l) : ObjOk P w H h a (SetSO w a l) := by
  have ⟨o, _, _, _, ho, _⟩ := R
  exact ⟨R, ⟨o, ho⟩, fun h1 h2 p k => SetS.keep p k⟩
section
variable {X : Cx} {pins : List (Addr × Obj)} {σ : L2.St} {H : Hp} {s : Shared} {a : Addr} {l : List Str}
theorem so_get (I : Inv X pins σ H s) (ha : H a = some (SetSO X.w a l)) : SetS X.w s.heap a l := (I.hok a _ ha).1
theorem so_add {E : Value → Shared → Prop} {x : Str} {u : Tok} {Q : Value → Shared → Prop} (I : Inv X pins σ H s) (ha : H a = some (SetSO X.w a l)) (small : l.length + 1 < scanBound)
    (h : ∀ s', Inv X pins σ (upd H a (SetSO X.w a (put x l))) s' → Q .none s') : wpAny (model X.prog X.w) X.A (call (.builtin "set.add") [.ref a, .str x u]) Q E s := by
  refine call_add (so_get I ha) small fun h' sb new => ?_
  have there : ∃ o, h'.get? a = some o := by
    have ⟨o, _, _, _, ho, _⟩ := new
    exact ⟨o, ho⟩
  exact h _ (I.write (e := a) (t' := s.toks + 1) (by rw [ha]; trivial) (.inl rfl) (fun b o hb ho => (sb.2 b hb).trans ho) there (so_new new))
/-- sorted(a set of texts), fewer than 64 -/
def rSortedSS (w : World) : List V → Hp → VK → Prop := fun vs H Q => ∃ (a : Addr) (l : List Str), vs = [V.ref a] ∧ H a = some (SetSO w a l) ∧ l.length < 64 ∧ ∀ (ys : List Str) (p : Addr), ys.Perm l → sortedS ys = true → H p = none → Q (.ref p) (upd H p (.lst (ys.map V.str)))
theorem cr_sortedSS (hc : X.calm = true) : CallR X (.builtin "sorted") (rSortedSS X.w) := by
  intro pins s σ H vs us Q I r h
  obtain ⟨a, l, rfl, ha, h64, q⟩ := h
  rw [Vals.ref1 r]
  refine call_sorted (so_get I ha) (I.ok.hd hc) h64 fun s' p out c ys k g o hp hg hi hy hs => ?_
  have hlen : (ys.map V.str).length ≤ sizeLine := by
    rw [List.length_map, hy.length_eq, sizeLine_eq]
    omega
  have hn : H p = none := I.hok.fresh hp
  have J : Inv X pins σ (upd H p (.lst (ys.map V.str))) { s with heap := s'.heap, gens := s'.gens, drawn := s'.drawn, toks := s'.toks } :=
    I.call (ch := []) (Un.laid k hp hn) (I.hok.laid k hp ⟨hlen, out.toList, c, vals_of_strs hi, hg⟩) (by rw [g]; exact I.bare) (fun _ z => nomatch z)
  have e : s' = { s with heap := s'.heap, gens := s'.gens, drawn := s'.drawn, toks := s'.toks } := by
    cases s'
    cases s
    cases o
    rfl
  rw [e]
  exact ⟨.ref p, _, J, rfl, q ys p hy hs hn⟩
end
end TX

/-! {elt for target in iter if ..}, elt a text. -/
namespace TX
open PySem PySem.Spec PyProof.Rows L2 PpSet
/-- the element goes into the set at D -/
def Into (w : World) (D : Addr) (Nx : Hp → Prop) : VK := fun y H => ∃ (z : Str) (l : List Str), y = .str z ∧ H D = some (SetSO w D l) ∧ l.length + 1 < scanBound ∧ Nx (upd H D (SetSO w D (put z l)))
/-- one turn: target, tests, element -/
def Turn (w : World) (g : TG) (tt : TT) (te : TE) (vs : List Nat) (σ : L2.St) (D : Addr) (Nx : Hp → Prop) (x : V) (H : Hp) : Prop :=
  g x (wipe σ vs) H fun σ2 H2 => wipe σ2 vs = wipe σ vs ∧ tt σ2 H2 fun b H3 => if b = true then te σ2 H3 (Into w D Nx) else Nx H3
/-- the set comprehension's reading: W i m what holds before turn i, m falls -/
def tScS (w : World) (wi : TI) (g : TG) (tt : TT) (te : TE) (vs : List Nat) : TE := fun σ H Q => wi σ H fun J H1 => ∀ D, H1 D = none → ∃ W : Nat → Nat → Hp → Prop, (∃ m, W 0 m (upd H1 D (SetSO w D []))) ∧ ∀ i m H, W i m H →
  (J.stop i H ∧ Q (.ref D) H) ∨ (J.go i H ∧ ∃ Nx : Hp → Prop, (∀ H', Nx H' → ∃ m', m' < m ∧ W (i + 1) m' H') ∧ ∀ x H', J.yld i H x H' → Turn w g tt te vs σ D Nx x H')
section
variable {X : Cx}
theorem pe_scS {elt tg iter : Expr} {ifs : List Expr} {scope : Scope} {own : List (PySem.Str × Nat)} {pos : Pos} {wi : TI} {g : TG} {tt : TT} {te : TE} (hc : X.calm = true) (hN : X.N.Nodup) (hi : PI X tg iter wi) (ok : BlkOk X.N X.env.scope scope own)
    (hg : ∀ (s : Shared) (H : Hp) (C : Addr) (cl : List (PySem.Str × Addr)) (fp : List Addr), PG (X.blk s H scope (compEnvC scope cl C X.env) fp) tg g) (ht : ∀ (s : Shared) (H : Hp) (C : Addr) (cl : List (PySem.Str × Addr)) (fp : List Addr), PTs (X.blk s H scope (compEnvC scope cl C X.env) fp) ifs tt)
    (he : ∀ (s : Shared) (H : Hp) (C : Addr) (cl : List (PySem.Str × Addr)) (fp : List Addr), PE (X.blk s H scope (compEnvC scope cl C X.env) fp) elt te) (hs : ∀ x, foldedSetIterable iter X.env x = pure x := by intro _; rfl) :
    PE X (.SetComp elt [⟨tg, iter, ifs, 0⟩] scope pos) (tScS X.w wi g tt te (own.map (·.2))) := by
  refine ⟨fun pins s σ H Q I h => ?_⟩
  rw [eval_SetComp]
  have free : ∀ y ∈ scope.names, y.2 = .free → ∃ c, X.env.cells.lookup y.1 = some c := fun y hy e => (ok.free y hy e).elim (fun k => I.ok.has _ (.inl k)) (fun k => I.ok.has _ (.inr k))
  refine wpAny_comprehension_free rfl hs (closure_ok free) ok.kind (fun y hy e => by rw [ok.uniq y hy, e]) (thn (hi.run pins s σ H _ I h) fun xv s1 hx => thn hx fun itv s2 h2 => ?_)
  obtain ⟨it, fp, tn, J, H2, e, I2, T, st2, f2, q⟩ := h2
  subst e
  refine newSet_ok (newEnv_comp ?_)
  -- the new set is tracked
  obtain ⟨D, hD⟩ : ∃ D, s2.heap.objs.size = D := ⟨_, rfl⟩
  rw [hD]
  obtain ⟨W, ⟨m0, w0⟩, turn⟩ := q D (I2.hok.fresh (Nat.le_of_eq hD))
  obtain ⟨s3, hs3⟩ : ∃ s3 : Shared, ({ s2 with heap := s2.heap.push { cls := .type "set", dict := none, data := .set #[] 0 (.fresh 0 0 (!X.w.params.followText "set-order")) } } : Shared) = s3 := ⟨_, rfl⟩
  have h3 : s3.heap = s2.heap.push { cls := .type "set", dict := none, data := .set #[] 0 (.fresh 0 0 (!X.w.params.followText "set-order")) } := by rw [← hs3]
  obtain ⟨H3, hH3⟩ : ∃ H3, upd H2 D (SetSO X.w D []) = H3 := ⟨_, rfl⟩
  have I3 : Inv X pins σ H3 s3 := by
    rw [← hs3, ← hH3]
    refine I2.laid (t' := s2.toks) (fun b o e => Heap.get?_push_of_some _ e) (Nat.le_of_eq hD) ?_
    rw [← hD]
    exact so_new (fresh X.w)
  rw [hs3]
  rw [hH3] at w0
  -- what the iterator stands upon is not tracked
  have foot : ∀ b ∈ fp, FpOk X pins H3 b ∧ b < s3.heap.objs.size := fun b hb => by
    obtain ⟨o, e, _⟩ := T.obj _ _ st2 b hb
    have lt := Heap.lt_size e
    refine ⟨⟨?_, (f2 b hb).2⟩, ?_⟩
    · rw [← hH3, upd_ne (by rw [← hD]; exact Nat.ne_of_lt lt)]
      exact (f2 b hb).1
    · rw [h3, Heap.size_push]
      exact Nat.lt_succ_of_lt lt
  have st3 : tn 0 s3.heap := T.keep _ _ _ st2 fun b _ o e => by
    rw [h3]
    exact Heap.get?_push_of_some _ e
  have I4 := block_start I3 ok hN foot
  have pg := hg s3 H3 s3.heap.objs.size (cellsFrom (s3.heap.objs.size + 1) scope.names (cloFrom X.env.cells scope.names [])) fp
  have pt := ht s3 H3 s3.heap.objs.size (cellsFrom (s3.heap.objs.size + 1) scope.names (cloFrom X.env.cells scope.names [])) fp
  have pe := he s3 H3 s3.heap.objs.size (cellsFrom (s3.heap.objs.size + 1) scope.names (cloFrom X.env.cells scope.names [])) fp
  show codeAny _ _ (.compStart (.SetComp elt [⟨tg, iter, ifs, 0⟩] scope pos) 0 (.ref it) (.ref D) (compEnvC scope (cellsFrom (s3.heap.objs.size + 1) scope.names (cloFrom X.env.cells scope.names [])) s3.heap.objs.size X.env)) _ { s3 with heap := pushCells (s3.heap.push { cls := .type "dict", data := .dict #[] }) scope.names }
  have bare : ∀ b ∈ fp, H3 b = none := fun b hb => (foot b hb).1.1
  generalize hce : compEnvC scope (cellsFrom (s3.heap.objs.size + 1) scope.names (cloFrom X.env.cells scope.names [])) s3.heap.objs.size X.env = ce at I4 pg pt pe ⊢
  have cL : ce.locals = s3.heap.objs.size := by
    subst hce
    rfl
  generalize hs4 : ({ s3 with heap := pushCells (s3.heap.push { cls := .type "dict", data := .dict #[] }) scope.names } : Shared) = s4 at I4 ⊢
  have st4 : tn 0 s4.heap := T.keep _ _ _ st3 fun b _ o e => by
    rw [← hs4]
    exact pushCells_keeps _ _ _ _ (Heap.get?_push_of_some _ e)
  -- in the block as well
  have stat : ∀ {σ' : L2.St} {H' : Hp} {s' : Shared}, Inv (X.blk s3 H3 scope ce fp) [] σ' H' s' → (∀ b ∈ fp, H' b = none) → ∀ b ∈ fp, FpOk (X.blk s3 H3 scope ce fp) [] H' b := fun {σ' H' s'} I' hn b hb =>
    ⟨hn b hb, (I'.ok.exf b hb).1, I'.ok.exfs b hb, .inl hb, fun x c e => (I'.ok.exf b hb).2 x c e, fun p hp => absurd (show p ∈ ([] : List (Addr × Obj)) ++ [] from hp) (by simp)⟩
  refine (fun (loop : codeAny (model X.prog X.w) X.A (.compLoop (.SetComp elt [⟨tg, iter, ifs, 0⟩] scope pos) 0 (.ref it) (.ref D) ce) _ s4) => codeAny_compStart_set loop (T.self X.A 0 _ _ _ st4 loop)) ?_
  refine compLoopS_any (fun n s' => ∃ i H', Inv (X.blk s3 H3 scope ce fp) [] (wipe σ (own.map (·.2))) H' s' ∧ tn i s'.heap ∧ (∀ b ∈ fp, H' b = none) ∧ W i n H') ?_ m0 ⟨0, H3, I4, st4, bare, w0⟩
  rintro n s5 ⟨i, H5, I5, st5, n5, w5⟩
  rcases turn i n H5 w5 with ⟨stop, fin⟩ | ⟨go, Nx, hNx, step⟩
  · refine thnF (T.done (X.blk s3 H3 scope ce fp) rfl rfl rfl hc i [] s5 _ H5 (fun _ _ => False) I5 (stat I5 n5) st5 stop) fun r s6 ⟨hr, I6⟩ => ?_
    subst hr
    have I7 : Inv X pins σ H5 s6 := I3.call' (ch := fp) I6.os I6.base I6.hok I6.bare fun b hb => ⟨(foot b hb).1.2.2.2.1, (foot b hb).1.2.1, (foot b hb).1.2.2.2.2.1, (foot b hb).1.2.2.2.2.2⟩
    have gone : H5 s3.heap.objs.size = none := by
      have z : H5 ce.locals = none := I6.free
      rw [cL] at z
      exact z
    obtain ⟨m, hn, _⟩ := I6.loc
    have hn : s6.heap.Ns ce.locals m := hn
    rw [cL] at hn
    refine ⟨m, hn, fun h'' sb => ?_⟩
    obtain ⟨f0, f1, f2', f3, f4, f5⟩ := I3.fpOk (Nat.le_refl _) gone
    exact ⟨.ref D, H5, I7.turned (t' := s6.toks) (fun b o hb e => (sb.2 b hb).trans e) f0 f1 f3 f4 f5, rfl, fin⟩
  · refine thnF (T.item (X.blk s3 H3 scope ce fp) rfl rfl rfl hc i [] s5 _ H5 (fun _ _ => False) I5 (stat I5 n5) st5 go) fun r s6 ⟨u, hr, h6⟩ => ?_
    subst hr
    refine thnF h6 fun _ s7 ⟨x, H7, I7, r7, y7, st7, n7⟩ => ?_
    have I7' := I7.pinned (stat I7 n7) (T.obj _ _ st7)
    refine thnF (pg.run _ s7 _ H7 x u _ I7' r7 (step x H7 y7)) fun _ s8 ⟨σ8, H8, I8, hw8, q8⟩ => ?_
    refine thnF (pt.run _ s8 σ8 H8 _ I8 q8) fun b s9 ⟨H9, I9, q9⟩ => ?_
    have next : ∀ {s' : Shared} {H' : Hp}, Inv (X.blk s3 H3 scope ce fp) ([] ++ pinsAt fp s7.heap) σ8 H' s' → Nx H' → ∃ m, m < n ∧ ∃ i H', Inv (X.blk s3 H3 scope ce fp) [] (wipe σ (own.map (·.2))) H' s' ∧ tn i s'.heap ∧ (∀ b ∈ fp, H' b = none) ∧ W i m H' := fun {s' H'} I' nx => by
      obtain ⟨m', hm, w'⟩ := hNx H' nx
      have pinned : ∀ b ∈ fp, ∀ o, s7.heap.get? b = some o → s'.heap.get? b = some o ∧ H' b = none := fun b hb o e => by
        have z := I'.pin (b, o) (List.mem_append_right _ (List.mem_append_right _ (mem_pinsAt hb e)))
        exact ⟨z.1, z.2.1⟩
      have len : (wipe σ (own.map (·.2))).length = σ8.length := by rw [← hw8, wipe_length]
      refine ⟨m', hm, i + 1, H', (I'.unpinned (pins := [])).weak len (fun j v e => ?_), T.keep _ _ _ st7 fun b hb o e => (pinned b hb o e).1, fun b hb => ?_, w'⟩
      · rw [← hw8] at e
        exact (wipe_some e).1
      · obtain ⟨o, e, _⟩ := T.obj _ _ st7 b hb
        exact (pinned b hb o e).2
    cases b with
    | false =>
      simp only [Bool.false_eq_true, if_false] at q9 ⊢
      exact next I9 q9
    | true =>
      simp only [if_true] at q9 ⊢
      refine thnF (pe.run _ s9 σ8 H9 _ I9 q9) fun z s10 ⟨yv, H10, I10, r10, zt, l0, ey, hD10, hz10, nx⟩ => ?_
      subst ey
      obtain ⟨tk, rfl⟩ : ∃ tk, z = Value.str zt tk := r10
      exact so_add (X := X.blk s3 H3 scope ce fp) I10 hD10 hz10 fun s11 I11 => next I11 nx
end
end TX

namespace K5
open PySem PySem.Spec PyProof.Rows L2 GR WX TX
def varName : PyData → Option Str
  | .tuple [.str w, .str z] => if w = "var" then some z else none
  | _ => none
/-- the variables among these parts -/
def vars (l : List PyData) : List Str := l.filterMap varName
theorem Ex.var {zs : List Str} {n : Nat} {rest : List PyData} (h : Ex zs n (.tuple (.str "var" :: rest))) : ∃ z, z ∈ zs ∧ rest = [.str z] := by
  generalize hx : PyData.tuple (.str "var" :: rest) = x at h
  cases h with
  | leaf n x h =>
    cases h with
    | int i _ _ => cases hx
    | let_ i _ _ => cases hx
    | key => cases hx
    | var z hz =>
      cases hx
      exact ⟨z, hz, rfl⟩
  | cell n t v x h1 h2 h3 => cases hx
  | op n o x y h1 h2 h3 =>
    cases hx
    exact absurd h1 (by decide)
  | iff n x y z h1 h2 h3 => cases hx
  | agg n o t xs ys h1 h2 h3 h4 h5 =>
    cases hx
    simp only [aggs, List.mem_cons, List.not_mem_nil, or_false, Prod.mk.injEq] at h1
    rcases h1 with ⟨h, _⟩ | ⟨h, _⟩ | ⟨h, _⟩ | ⟨h, _⟩ <;> exact absurd h (by decide)
theorem varName_no {w : Str} {rest : List PyData} (h : w ≠ "var") : varName (.tuple (.str w :: rest)) = none := by
  unfold varName
  split
  · rename_i w' z e
    cases e
    rw [if_neg h]
  · rfl
theorem vars_take {l : List PyData} {i : Nat} {x : PyData} (h : l[i]? = some x) : vars (l.take (i + 1)) = vars (l.take i) ++ (varName x).toList := by
  unfold vars
  rw [take_snoc h, List.filterMap_append]
  cases e : varName x with
  | none => simp [e]
  | some z => simp [e]
theorem lvls_ex {zs : List Str} : ∀ {n : Nat} {l : List PyData}, (∀ x, x ∈ l → Ex zs n x) → ∀ y, y ∈ lvls n l → Ex zs n y
  | 0, l, h, y, hy => by
    simp only [lvls, List.not_mem_nil] at hy
  | n + 1, l, h, y, hy => by
    rw [lvls] at hy
    rcases List.mem_append.mp hy with hy | hy
    · exact h y hy
    · exact (lvls_ex (down_ex h) y hy).mono (Nat.le_succ n)
theorem vars_in {zs : List Str} {n : Nat} {l : List PyData} (h : ∀ x, x ∈ l → Ex zs n x) : ∀ z, z ∈ vars l → z ∈ zs := by
  intro z hz
  obtain ⟨x, hx, e⟩ := List.mem_filterMap.mp hz
  obtain ⟨w, fs, rest, rfl, _, _⟩ := (h x hx).form
  by_cases hw : w = "var"
  · subst hw
    obtain ⟨z', hz', rfl⟩ := (h _ hx).var
    unfold varName at e
    simp only [if_pos] at e
    exact Option.some.inj e ▸ hz'
  · rw [varName_no hw] at e
    cases e
theorem nodup_le : ∀ {l m : List Str}, l.Nodup → (∀ z, z ∈ l → z ∈ m) → l.length ≤ m.length
  | [], _, _, _ => Nat.zero_le _
  | a :: l, m, h, s => by
    obtain ⟨h1, h2⟩ := List.nodup_cons.mp h
    have ha := s a List.mem_cons_self
    have := nodup_le (m := m.erase a) h2 fun z hz => by
      have hne : z ≠ a := fun e => h1 (e ▸ hz)
      exact (List.mem_erase_of_ne hne).mpr (s z (List.mem_cons_of_mem _ hz))
    rw [List.length_erase_of_mem ha] at this
    have pos : 0 < m.length := List.length_pos_of_mem ha
    rw [List.length_cons]
    omega
section
variable {P : Program} {w : World} {K : PySem.W.Frag} {mg : Str → Option Value} {base : Heap}
abbrev s_variables_of : Stmt := topS 10
abbrev N_vars : List Str := ["expression", "part"]
theorem sc_variables_of : FnScope N_vars ["expression"] (defScope s_variables_of) := ⟨rfl, rfl, rfl, by decide +kernel, rfl, by decide +kernel, by decide +kernel⟩
def sp_variables_of (K : PySem.W.Frag) : Sp := fun vs H Q _ => ∃ (v : V) (x : PyData) (zs : List Str) (n : Nat), vs = [v] ∧ Dp K H v x ∧ Ex zs n x ∧ (flatP n x).length ≤ 2100000 ∧ zs.length ≤ 60 ∧
  ∀ H' p ys, Same H H' → H p = none → H' p = some (.tup (ys.map V.str)) → ys.Nodup → sortedS ys = true → (∀ z, z ∈ ys ↔ z ∈ vars (lvls n [x])) → Q (.ref p) H'
theorem ok_variables_of {f fc : Addr} {fd fdc : FuncData} {k : Nat} (F : Fun K "variables_of" "variables_of" s_variables_of f fd) (Gc : FnOk P w K mg base CX0 k fc fdc ["expression"] (sp_all_parts K)) (gc : mg "all_parts" = some (.ref fc)) (Kc : PySem.W.keepIn K (.ref fc) = true) (bc : Binds K fdc ["expression"] [])
    (msorted : mg "sorted" = none) (mtuple : mg "tuple" = none) : FnOk P w K mg base CX0 (k + 1) f fd ["expression"] (sp_variables_of K) := by
  have nd := sc_variables_of.nd
  refine F.ok sc_variables_of (fun vs H Q E h => ?_) (fun cdv A outer s H vs Q E hr h => ?_)
  · obtain ⟨v, x, zs, n, rfl, _⟩ := h
    rfl
  obtain ⟨v, x, zs, n, rfl, hd, he, hb, hz, q⟩ := h
  refine ⟨_, (pss_one (ps_ret (pe_callTy call_tuple_of (by rfl) mtuple boot_tuple (pa_cons (pe_callB (cr_sortedSS rfl) (by rfl) msorted boot_sorted (pa_cons (pe_scS (own := [("part", 1)]) rfl nd (pi_list (pe_call Gc hr (by rfl) gc Kc bc .nil pass0 (pa_cons (pv 0) pa_nil))) (blkOk_by (N := N_vars) (sc := defScope s_variables_of) (by decide +kernel))
      (fun _ _ _ _ _ => (pg_name (i := 1) nd rfl (Or.inl rfl)))
      (tt := tTest (tOp rEq (tOp (rIxT K) (tVar 1) (tC (.int 0))) (tC (.str "var")))) (fun _ _ _ _ _ => pts_one (pt_cmpR op_eq (pe_ix ix_tup (pv 1) pe_int (fun _ _ => rfl)) pe_str (nomark _)))
      (te := tOp (rIxT K) (tVar 1) (tC (.int 1))) (fun _ _ _ _ _ => (pe_ix ix_tup (pv 1) pe_int (fun _ _ => rfl)))) pa_nil)) pa_nil)))), ?_⟩
  refine ⟨v, rfl, v, x, zs, n, rfl, hd, he, hb, fun H1 p us s1 np hp hu => ⟨p, rfl, ⟨us, .inl (.inl hp)⟩, fun D nD => ?_⟩⟩
  have hx1 : ∀ y, y ∈ [x] → Ex zs n y := fun y hy => by
    rw [List.mem_singleton.mp hy]
    exact he
  have hE := lvls_ex hx1
  have lu := dpAll_len hu
  have npD := ne_of_none hp nD
  have hvz := vars_in hE
  refine walk_body (xs := us) (fun i H' => ∃ l, H' D = some (SetSO w D l) ∧ l.Nodup ∧ (∀ z, z ∈ l ↔ z ∈ vars ((lvls n [x]).take i)) ∧ Same H1 H') ?_ ?_ ?_ ?_
  · refine ⟨[], upd_same, .nil, fun z => ?_, same_upd nD⟩
    rw [List.take_zero]
    exact Iff.rfl
  · rintro i H' _ ⟨l, hl, hn, hm, kk⟩
    exact .inl (.inl (kk _ _ hp))
  · rintro i y H' hy ⟨l, hl, hn, hm, kk⟩
    obtain ⟨d, hdi, hyd⟩ := dpAll_at hu hy
    have ex := hE d (List.mem_of_getElem? hdi)
    have hyd2 := ex.kept (KeepT.of kk) hyd
    have vt := vars_take hdi
    obtain ⟨wd, fs, rest, rfl, _, _⟩ := ex.form
    cases hyd2 with
    | tup hS hA =>
    cases hA with
    | cons hw hA =>
    cases hw
    rename_i a vs
    refine ⟨rfl, .ref a, rfl, a, _, 0, .str wd, rfl, rfl, hS, at0, rfl, _, rfl, ite2 (fun e1 => ?_) (fun e1 => ?_)⟩
    · have e1 : wd = "var" := by simpa using e1
      subst e1
      obtain ⟨z, hzz, rfl⟩ := ex.var
      cases hA with
      | cons hw hA =>
      cases hw
      refine ⟨.ref a, rfl, a, _, 1, .str z, rfl, rfl, hS, at1, z, l, rfl, hl, ?_, put z l, upd_same, put_nodup hn, fun z' => ?_, fun b o e => ?_⟩
      · have := nodup_le (m := zs) hn fun z' hz' => hvz z' (by
          have h1 := (hm z').mp hz'
          obtain ⟨y, hy, e⟩ := List.mem_filterMap.mp h1
          exact List.mem_filterMap.mpr ⟨y, List.mem_of_mem_take hy, e⟩)
        show _ < 4096
        omega
      · rw [mem_put, vt, List.mem_append, hm z']
        have : (varName (.tuple [.str "var", .str z])).toList = [z] := by
          unfold varName
          simp
        rw [this, List.mem_singleton]
        exact Or.comm
      · rw [upd_ne (ne_of_none e nD)]
        exact kk _ _ e
    · have e1 : wd ≠ "var" := fun z => e1 (by simpa using z)
      refine ⟨l, hl, hn, fun z => ?_, kk⟩
      rw [vt, varName_no e1, hm z]
      simp
  · rintro H' ⟨l, hl, hn, hm, kk⟩
    rw [lu, List.take_length] at hm
    have h6 := nodup_le (m := zs) hn fun z' hz' => hvz z' ((hm z').mp hz')
    refine ⟨D, l, rfl, hl, by omega, fun ys r hperm hsrt nr => ?_⟩
    have sr := same_upd (o := .lst (ys.map V.str)) nr
    refine ⟨r, ys.map V.str, rfl, .inl ⟨.inl (.inl upd_same), fun t nt => ?_⟩⟩
    have st := same_upd (o := .tup (ys.map V.str)) nt
    refine q _ t ys (s1.trans (kk.trans (sr.trans st))) ((s1.trans (kk.trans sr)).free nt) upd_same (hperm.nodup_iff.mpr hn) hsrt fun z => ?_
    rw [hperm.mem_iff]
    exact hm z
end
end K5

namespace K5
open PySem PySem.Spec PyProof.Rows L2 GR WX TX
def rowsD (t : Str) : PyData := .tuple [.str "cell", .str t, .tuple [.str "key"], .str "in"]
abbrev aggW : List Str := ["count", "sum", "most", "first"]
/-- the word of a part -/
def headW : PyData → Str
  | .tuple (.str w :: _) => w
  | _ => Str.empty
/-- a part may stand in a plain expression -/
def plainP : PyData → Bool
  | .tuple (.str w :: .str t :: x :: y :: r) => if w ∈ aggW then PyData.eqv x (.tuple []) && PyData.eqv y (rowsD t) else decide (w ≠ "let")
  | .tuple (.str w :: _) => decide (w ≠ "let")
  | _ => true
def simpleP (x : PyData) : Bool := decide (headW x ∉ aggW)
/-! ### what can be compared -/
theorem lay_all : ∀ {l : List PyData}, (∀ x, x ∈ l → x.canLay0 = true) → PyData.canLayAll0 l = true
  | [], _ => by simp only [PyData.canLayAll0]
  | x :: l, h => by
    rw [PyData.canLayAll0, h x List.mem_cons_self, lay_all fun y hy => h y (List.mem_cons_of_mem _ hy)]
    rfl
theorem ok_words : ∀ w, w ∈ (["int", "let", "key", "var", "cell", "if", "+", "-", "*", "<", "=", "at", "count", "sum", "most", "first", "in"] : List Str) → PyData.strOk w = true := by decide +kernel
theorem lay_of {zs : List Str} (hz : ∀ z, z ∈ zs → PyData.strOk z = true) : ∀ {n : Nat} {x : PyData}, Ex zs n x → x.canLay0 = true := by
  intro n x h
  induction h with
  | leaf n x h =>
    cases h with
    | int i _ _ => simp only [PyData.canLay0, PyData.canLayAll0, Bool.and_true, ok_words "int" (by decide)]
    | let_ i _ _ => simp only [PyData.canLay0, PyData.canLayAll0, Bool.and_true, ok_words "let" (by decide)]
    | key => simp only [PyData.canLay0, PyData.canLayAll0, Bool.and_true, ok_words "key" (by decide)]
    | var z h => simp only [PyData.canLay0, PyData.canLayAll0, Bool.and_true, hz z h, ok_words "var" (by decide)]
  | cell n t v x h1 h2 h3 ih => simp only [PyData.canLay0, PyData.canLayAll0, Bool.and_true, hz t h1, hz v h2, ih, ok_words "cell" (by decide)]
  | op n o x y h1 h2 h3 ih1 ih2 =>
    have : PyData.strOk o = true := by
      simp only [opws, List.mem_cons, List.not_mem_nil, or_false] at h1
      rcases h1 with rfl | rfl | rfl | rfl | rfl | rfl <;> exact ok_words _ (by decide)
    simp only [PyData.canLay0, PyData.canLayAll0, Bool.and_true, this, ih1, ih2]
  | iff n x y z h1 h2 h3 ih1 ih2 ih3 => simp only [PyData.canLay0, PyData.canLayAll0, Bool.and_true, ih1, ih2, ih3, ok_words "if" (by decide)]
  | agg n o t xs ys h1 h2 h3 h4 h5 ih1 ih2 =>
    have ho : PyData.strOk o = true := by
      simp only [aggs, List.mem_cons, List.not_mem_nil, or_false, Prod.mk.injEq] at h1
      rcases h1 with ⟨rfl, _⟩ | ⟨rfl, _⟩ | ⟨rfl, _⟩ | ⟨rfl, _⟩ <;> exact ok_words _ (by decide)
    simp only [PyData.canLay0, PyData.canLayAll0, Bool.and_true, ho, hz t h2, lay_all ih1, lay_all ih2]
theorem depth_all {b : Nat} : ∀ {l : List PyData}, (∀ x, x ∈ l → x.depth ≤ b) → PyData.depthAll l ≤ b
  | [], _ => by simp only [PyData.depthAll]; exact Nat.zero_le _
  | x :: l, h => by
    have h1 := h x List.mem_cons_self
    have h2 := depth_all fun y hy => h y (List.mem_cons_of_mem _ hy)
    simp only [PyData.depthAll]
    omega
theorem depth_of {zs : List Str} : ∀ {n : Nat} {x : PyData}, Ex zs n x → x.depth ≤ 2 * n := by
  intro n x h
  induction h with
  | leaf n x h =>
    cases h <;> simp only [PyData.depth, PyData.depthAll] <;> omega
  | cell n t v x h1 h2 h3 ih =>
    simp only [PyData.depth, PyData.depthAll]
    omega
  | op n o x y h1 h2 h3 ih1 ih2 =>
    simp only [PyData.depth, PyData.depthAll]
    omega
  | iff n x y z h1 h2 h3 ih1 ih2 ih3 =>
    simp only [PyData.depth, PyData.depthAll]
    omega
  | agg n o t xs ys h1 h2 h3 h4 h5 ih1 ih2 =>
    have a := depth_all ih1
    have b := depth_all ih2
    simp only [PyData.depth, PyData.depthAll]
    omega
theorem shaped_of {zs : List Str} {n : Nat} {x : PyData} (hz : ∀ z, z ∈ zs → PyData.strOk z = true) (hn : n ≤ 32) (h : Ex zs n x) : SeqAt.shaped x = true := by
  have := depth_of h
  unfold SeqAt.shaped
  rw [lay_of hz h, Bool.true_and]
  exact decide_eq_true (by omega)
end K5

namespace K5
open PySem PySem.Spec PyProof.Rows L2 GR WX TX
theorem Ex.names {zs ws : List Str} (s : ∀ z, z ∈ zs → z ∈ ws) : ∀ {n : Nat} {x : PyData}, Ex zs n x → Ex ws n x := by
  intro n x h
  induction h with
  | leaf n x h =>
    refine .leaf n x ?_
    cases h with
    | int i a b => exact .int i a b
    | let_ i a b => exact .let_ i a b
    | key => exact .key
    | var z hz => exact .var z (s z hz)
  | cell n t v x h1 h2 h3 ih => exact .cell n t v x (s t h1) (s v h2) ih
  | op n o x y h1 h2 h3 ih1 ih2 => exact .op n o x y h1 ih1 ih2
  | iff n x y z h1 h2 h3 ih1 ih2 ih3 => exact .iff n x y z ih1 ih2 ih3
  | agg n o t xs ys h1 h2 h3 h4 h5 ih1 ih2 => exact .agg n o t xs ys h1 (s t h2) h3 ih1 ih2
/-! ### how long a text is -/
def sl (d : PyData) : Nat := d.shown.length
def sls : List PyData → Nat
  | [] => 0
  | d :: ds => sl d + 2 + sls ds
theorem sls_eq : ∀ ds : List PyData, ((PyData.shownAll ds).map (·.length)).sum + 2 * ds.length = sls ds
  | [] => by simp only [PyData.shownAll, List.map_nil, List.sum_nil, List.length_nil, sls]
  | d :: ds => by
    have := sls_eq ds
    simp only [PyData.shownAll, List.map_cons, List.sum_cons, List.length_cons, sls, sl]
    omega
theorem sls_append : ∀ (xs ys : List PyData), sls (xs ++ ys) = sls xs + sls ys
  | [], ys => by simp only [List.nil_append, sls, Nat.zero_add]
  | x :: xs, ys => by
    have := sls_append xs ys
    simp only [List.cons_append, sls]
    omega
theorem sls_le {b : PyData → Nat} : ∀ {ds : List PyData}, (∀ d, d ∈ ds → sl d + 2 ≤ b d) → sls ds ≤ (ds.map b).sum
  | [], _ => Nat.le_refl _
  | d :: ds, h => by
    have h1 := h d List.mem_cons_self
    have h2 := sls_le fun x hx => h x (List.mem_cons_of_mem _ hx)
    simp only [sls, List.map_cons, List.sum_cons]
    omega
theorem sh_tup (ds : List PyData) : sl (.tuple ds) ≤ sls ds + 3 := by
  have h1 := tupleText_len_le (PyData.shownAll ds)
  have h2 := sls_eq ds
  rw [PyData.shownAll_length] at h1
  unfold sl
  simp only [PyData.shown]
  omega
theorem sh_lst (ds : List PyData) : sl (.list ds) ≤ sls ds + 3 := by
  have h1 := listText_len_le (PyData.shownAll ds)
  have h2 := sls_eq ds
  rw [PyData.shownAll_length] at h1
  unfold sl
  simp only [PyData.shown]
  omega
theorem sl_name {z : Str} (h : Nm z) : sl (.str z) ≤ 82 := by
  obtain ⟨_, h2, h3, _⟩ := h
  have e := StrLaws.reprText_len z fun c hc => Nat.lt_of_le_of_lt (h3 c hc).2 (by decide)
  have e2 : z.length = z.cps.toList.length := by
    rw [Array.length_toList]
    rfl
  unfold sl
  rw [PyData.shown_str]
  omega
theorem int_nat {n : Int} (h1 : -(10 ^ 18) ≤ n) (h2 : n ≤ 10 ^ 18) : n.natAbs ≤ 1000000000000000000 := by omega
theorem int_log {n : Int} (h1 : -(10 ^ 18) ≤ n) (h2 : n ≤ 10 ^ 18) : n.natAbs.log2 < 60 := by
  by_cases e : n.natAbs = 0
  · rw [e]; decide
  · exact (Nat.log2_lt e).mpr (Nat.lt_of_le_of_lt (int_nat h1 h2) (by decide))
theorem sl_int {n : Int} (h1 : -(10 ^ 18) ≤ n) (h2 : n ≤ 10 ^ 18) : sl (.int n) ≤ 20 := by
  have e := int_text_length_le10 (k := 19) (by decide) (Nat.lt_of_le_of_lt (int_nat h1 h2) (by decide : 1000000000000000000 < 10 ^ 19))
  unfold sl
  rw [PyData.shown_int, PySem.ofString_length]
  exact e
theorem sl_word : ∀ w, w ∈ (["int", "let", "key", "var", "cell", "if", "+", "-", "*", "<", "=", "at", "count", "sum", "most", "first", "in", "a"] : List Str) → sl (.str w) ≤ 7 := by
  have : ∀ w, w ∈ (["int", "let", "key", "var", "cell", "if", "+", "-", "*", "<", "=", "at", "count", "sum", "most", "first", "in", "a"] : List Str) → (reprText w).length ≤ 7 := by decide +kernel
  intro w hw
  unfold sl
  rw [PyData.shown_str]
  exact this w hw
theorem op_words {w : Str} (h : w ∈ opws) : w ∈ (["int", "let", "key", "var", "cell", "if", "+", "-", "*", "<", "=", "at", "count", "sum", "most", "first", "in", "a"] : List Str) := by
  simp only [opws, List.mem_cons, List.not_mem_nil, or_false] at h
  rcases h with rfl | rfl | rfl | rfl | rfl | rfl <;> decide
theorem agg_words {w : Str} {k : Nat} (h : (w, k) ∈ aggs) : w ∈ (["int", "let", "key", "var", "cell", "if", "+", "-", "*", "<", "=", "at", "count", "sum", "most", "first", "in", "a"] : List Str) := by
  simp only [aggs, List.mem_cons, List.not_mem_nil, or_false, Prod.mk.injEq] at h
  rcases h with ⟨rfl, _⟩ | ⟨rfl, _⟩ | ⟨rfl, _⟩ | ⟨rfl, _⟩ <;> decide
theorem sum_mul {α : Type} (c : Nat) (f : α → Nat) : ∀ l : List α, (l.map fun x => c * f x).sum = c * (l.map f).sum
  | [] => by simp
  | x :: l => by
    rw [List.map_cons, List.map_cons, List.sum_cons, List.sum_cons, sum_mul c f l, Nat.mul_add]
/-- an expression is no longer than 182 signs a part -/
theorem len_ex {zs : List Str} (hz : ∀ z, z ∈ zs → Nm z) : ∀ {n : Nat} {x : PyData}, Ex zs n x → sl x + 2 ≤ 182 * (flatP n x).length := by
  intro n x h
  induction h with
  | leaf n x h =>
    have e : (flatP (n + 1) x).length = 1 := by
      simp only [flatP, kids_leaf h, List.flatMap_nil, List.length_singleton]
    rw [e, Nat.mul_one]
    cases h with
    | int i h1 h2 =>
      have := sh_tup [.str "int", .int i]
      have := sl_word "int" (by decide)
      have := sl_int h1 h2
      simp only [sls] at *
      omega
    | let_ i h1 h2 =>
      have := sh_tup [.str "let", .int i]
      have := sl_word "let" (by decide)
      have := sl_int (show -(10 ^ 18) ≤ i by omega) (show i ≤ 10 ^ 18 by omega)
      simp only [sls] at *
      omega
    | var z h1 =>
      have := sh_tup [.str "var", .str z]
      have := sl_word "var" (by decide)
      have := sl_name (hz z h1)
      simp only [sls] at *
      omega
    | key =>
      have := sh_tup [.str "key"]
      have := sl_word "key" (by decide)
      simp only [sls] at *
      omega
  | cell n t v x h1 h2 h3 ih =>
    have e : (flatP (n + 1) (.tuple [.str "cell", .str t, x, .str v])).length = 1 + (flatP n x).length := by
      simp only [flatP, kids_cell, List.flatMap_cons, List.flatMap_nil, List.append_nil, List.length_cons]
      omega
    have := sh_tup [.str "cell", .str t, x, .str v]
    have := sl_word "cell" (by decide)
    have := sl_name (hz t h1)
    have := sl_name (hz v h2)
    rw [e, Nat.mul_add]
    simp only [sls] at *
    omega
  | op n w x y h1 h2 h3 ih1 ih2 =>
    have e : (flatP (n + 1) (.tuple [.str w, x, y])).length = 1 + ((flatP n x).length + (flatP n y).length) := by
      simp only [flatP, kids_op h1, List.flatMap_cons, List.flatMap_nil, List.append_nil, List.length_cons, List.length_append]
      omega
    have hw := sl_word w (op_words h1)
    rw [e, Nat.mul_add, Nat.mul_add]
    have := sh_tup [.str w, x, y]
    simp only [sls] at *
    omega
  | iff n x y z h1 h2 h3 ih1 ih2 ih3 =>
    have e : (flatP (n + 1) (.tuple [.str "if", x, y, z])).length = 1 + ((flatP n x).length + ((flatP n y).length + (flatP n z).length)) := by
      simp only [flatP, kids_if, List.flatMap_cons, List.flatMap_nil, List.append_nil, List.length_cons, List.length_append]
      omega
    have hw := sl_word "if" (by decide)
    rw [e, Nat.mul_add, Nat.mul_add, Nat.mul_add]
    have := sh_tup [.str "if", x, y, z]
    simp only [sls] at *
    omega
  | agg n w t xs ys h1 h2 h3 h4 h5 ih1 ih2 =>
    have e : (flatP (n + 1) (.tuple (.str w :: .str t :: .tuple xs :: ys))).length = 1 + ((xs.map fun z => (flatP n z).length).sum + (ys.map fun z => (flatP n z).length).sum) := by
      simp only [flatP, kids_agg h1, List.length_cons, List.length_flatMap, List.map_append, List.sum_append]
      omega
    have hw := sl_word w (agg_words h1)
    have ht := sl_name (hz t h2)
    rw [e, Nat.mul_add, Nat.mul_add, ← sum_mul, ← sum_mul]
    have a1 := sls_le (b := fun z => 182 * (flatP n z).length) ih1
    have a2 := sls_le (b := fun z => 182 * (flatP n z).length) ih2
    have c1 := sh_tup (.str w :: .str t :: .tuple xs :: ys)
    have c2 := sh_tup xs
    simp only [sls] at *
    omega
/-! ### what may be shown -/
theorem showAll_of : ∀ {l : List PyData}, (∀ x, x ∈ l → x.showable = true) → PyData.showableAll l = true
  | [], _ => by simp only [PyData.showableAll]
  | x :: l, h => by
    simp only [PyData.showableAll, h x List.mem_cons_self, showAll_of fun y hy => h y (List.mem_cons_of_mem _ hy), Bool.and_self]
theorem Ex.show {zs : List Str} : ∀ {n : Nat} {x : PyData}, Ex zs n x → x.showable = true := by
  intro n x h
  induction h with
  | leaf n x h =>
    cases h with
    | int i h1 h2 =>
      have := int_log h1 h2
      simp only [PyData.showable, PyData.showableAll, Bool.and_true, Bool.true_and]
      exact decide_eq_true (by omega)
    | let_ i h1 h2 =>
      have := int_log (show -(10 ^ 18) ≤ i by omega) (show i ≤ 10 ^ 18 by omega)
      simp only [PyData.showable, PyData.showableAll, Bool.and_true, Bool.true_and]
      exact decide_eq_true (by omega)
    | key => simp only [PyData.showable, PyData.showableAll, Bool.and_true, Bool.true_and]
    | var z h => simp only [PyData.showable, PyData.showableAll, Bool.and_true, Bool.true_and]
  | cell n t v x h1 h2 h3 ih => simp only [PyData.showable, PyData.showableAll, Bool.and_true, Bool.true_and, ih]
  | op n o x y h1 h2 h3 ih1 ih2 => simp only [PyData.showable, PyData.showableAll, Bool.and_true, Bool.true_and, ih1, ih2]
  | iff n x y z h1 h2 h3 ih1 ih2 ih3 => simp only [PyData.showable, PyData.showableAll, Bool.and_true, Bool.true_and, ih1, ih2, ih3]
  | agg n o t xs ys h1 h2 h3 h4 h5 ih1 ih2 => simp only [PyData.showable, PyData.showableAll, Bool.and_true, Bool.true_and, showAll_of ih1, showAll_of ih2]
end K5

/-! Sets of tuples of texts and ints: the table of such a set, one more element (the library's words are for tuples of ints). -/
namespace UA
open PySem PySem.Spec PyProof.Rows L2
/-- a key: the tuple's items -/
abbrev TKey := List L2.Key
/-- its hash -/
abbrev hz (P : Program) (w : World) (k : TKey) : Int := tupleKeyHash (mixKind P w) k
/-- at b lies the tuple k -/
abbrev Lies (P : Program) (w : World) (h : Heap) (k : TKey) (b : Addr) : Prop := IsTupleKey (mixKind P w) h k b
theorem lies_keep {P : Program} {w : World} {h g : Heap} {k : TKey} {b : Addr} (l : Lies P w h k b) (e : ∀ c o, h.get? c = some o → g.get? c = some o) : Lies P w g k b := by
  obtain ⟨o, its, n, ho, q⟩ := l
  exact ⟨o, its, n, e _ _ ho, q⟩
theorem lies_but {P : Program} {w : World} {h g : Heap} {k : TKey} {a b : Addr} {o : Obj} {es : Array (Int × Value)} {ep : Nat} {t : SetTable} (l : Lies P w h k b) (ho : h.get? a = some o) (hd : o.data = .set es ep t) (sb : Heap.SameBut a h g) : Lies P w g k b := by
  obtain ⟨u, its, n, hu, hc, du, q⟩ := l
  have ne : b ≠ a := by
    intro z
    rw [z, ho] at hu
    cases hu
    rw [hd] at du
    cases du
  exact ⟨u, its, n, (sb.2 b ne).trans hu, hc, du, q⟩
/-- what an item of a key is asked -/
theorem item_plain {P : Program} {w : World} : ∀ {k : TKey} {vs : List Value}, ItemsAre (mixKind P w) k vs → ∀ v, v ∈ vs → (∀ n, ofAClassStatement n v = pure false) ∧ ∀ n, ∃ y, hashByValue n v = pure y
  | _, _, .nil, v, hv => nomatch hv
  | _, _, .cons h t, v, hv => by
    rcases List.mem_cons.mp hv with rfl | hv
    · rcases keyIs_shape h with ⟨i, tk, rfl, rfl⟩ | ⟨x, tk, rfl, rfl⟩
      · exact ⟨fun n => by cases n <;> rfl, fun n => ⟨true, by cases n <;> rfl⟩⟩
      · exact ⟨fun n => by cases n <;> rfl, fun n => ⟨false, by cases n <;> rfl⟩⟩
    · exact item_plain t v hv
section
variable {P : Program} {w : World} {A : Around} {E : Value → Shared → Prop} {s : Shared}
theorem class_no {k : TKey} {b : Addr} {Q : Bool → Shared → Prop} (l : Lies P w s.heap k b) (q : Q false s) : wpAny (model P w) A (ofAClassStatement 8 (.ref b)) Q E s := by
  have ty := l.typeIs
  obtain ⟨o, its, n, ho, _, hd, hi⟩ := l
  have pl := item_plain hi
  unfold ofAClassStatement
  apply wpAny_bind
  refine wpAny_typeOf ty ?_
  dsimp only
  have yes : (("tuple" : String) == "tuple") = true := by decide
  simp only [yes, if_true, Bool.not_true, Bool.false_eq_true, if_false]
  (try (apply wpAny_bind; apply wpAny_pure))
  try simp only [Bool.not_true, Bool.false_eq_true, if_false]
  show wpAny _ _ (seqItems? (Value.ref b) >>= _) _ _ s
  apply wpAny_bind
  refine wpAny_seqItems ho hd ?_
  dsimp only
  apply wpAny_bind
  show wpAny (model P w) A (forIn its _ _) _ E s
  rw [← Array.forIn_toList]
  refine wpAny_forIn_list _ (fun rest r z => z = s ∧ r.1 = none ∧ ∀ v, v ∈ rest → ∀ n, ofAClassStatement n v = pure false) _ (fun v rest r z hz => ?_) (fun r z hz => ?_) _ _ ⟨rfl, rfl, fun v hv => (pl v hv).1⟩
  · obtain ⟨rfl, hr, all⟩ := hz
    rw [all v List.mem_cons_self]
    apply wpAny_bind
    apply wpAny_pure
    simp only [Bool.false_eq_true, if_false]
    exact wpAny_pure ⟨rfl, rfl, fun u hu => all u (List.mem_cons_of_mem _ hu)⟩
  · obtain ⟨r1, r2⟩ := r
    obtain ⟨rfl, hr, _⟩ := hz
    simp only at hr
    subst hr
    exact wpAny_pure q
theorem value_any {k : TKey} {b : Addr} {Q : Bool → Shared → Prop} (l : Lies P w s.heap k b) (q : ∀ y, Q y s) : wpAny (model P w) A (hashByValue 8 (.ref b)) Q E s := by
  have ty := l.typeIs
  obtain ⟨o, its, n, ho, _, hd, hi⟩ := l
  have pl := item_plain hi
  unfold hashByValue
  apply wpAny_bind
  refine wpAny_specialOf ty F.slot_tuple_hash.lookup ?_
  show wpAny _ _ (seqItems? (Value.ref b) >>= _) _ _ s
  apply wpAny_bind
  refine wpAny_seqItems ho hd ?_
  apply wpAny_bind
  show wpAny (model P w) A (forIn its _ _) _ E s
  rw [← Array.forIn_toList]
  refine wpAny_forIn_list _ (fun rest r z => z = s ∧ r.1 = none ∧ ∀ v, v ∈ rest → ∀ n, ∃ y, hashByValue n v = pure y) _ (fun v rest r z hz => ?_) (fun r z hz => ?_) _ _ ⟨rfl, rfl, fun v hv => (pl v hv).2⟩
  · obtain ⟨rfl, hr, all⟩ := hz
    obtain ⟨y, e⟩ := all v List.mem_cons_self 7
    rw [e]
    apply wpAny_bind
    apply wpAny_pure
    cases y with
    | true =>
      simp only [Bool.not_true, Bool.false_eq_true, if_false]
      exact wpAny_pure ⟨rfl, rfl, fun u hu => all u (List.mem_cons_of_mem _ hu)⟩
    | false =>
      simp only [Bool.not_false, if_true]
      exact wpAny_pure (wpAny_pure (q false))
  · obtain ⟨r1, r2⟩ := r
    obtain ⟨rfl, hr, _⟩ := hz
    simp only at hr
    subst hr
    exact wpAny_pure (q true)
/-- no search among keys can be seen -/
theorem unseen {k : TKey} {b : Addr} {Q : Bool → Shared → Prop} (l : Lies P w s.heap k b) {ys : List Value} (hy : ∀ y, y ∈ ys → ∃ k' c, y = Value.ref c ∧ Lies P w s.heap k' c) (q : Q false s) : wpAny (model P w) A (searchCouldBeSeen (.ref b) ys) Q E s := by
  unfold searchCouldBeSeen
  apply wpAny_bind
  refine wpAny_forIn_list _ (fun rest r z => z = s ∧ r.1 = none ∧ ∀ y, y ∈ rest → ∃ k' c, y = Value.ref c ∧ Lies P w s.heap k' c) _ (fun v rest r z hz => ?_) (fun r z hz => ?_) _ _ ⟨rfl, rfl, hy⟩
  · obtain ⟨rfl, hr, all⟩ := hz
    obtain ⟨k', c, rfl, lc⟩ := all v List.mem_cons_self
    have more : ∀ y, y ∈ rest → ∃ k' c, y = Value.ref c ∧ Lies P w z.heap k' c := fun u hu => all u (List.mem_cons_of_mem _ hu)
    dsimp only
    by_cases hv : (b == c || (carriedByValue (.ref b) && carriedByValue (.ref c))) = true
    · exact wp_if_pos hv (wpAny_pure ⟨rfl, rfl, more⟩)
    · refine wp_if_neg hv ?_
      apply wpAny_bind
      refine wpAny_eqIsQuiet_tuple l ?_
      simp only [Bool.not_true, Bool.false_eq_true, if_false]
      apply wpAny_bind
      refine wpAny_eqIsQuiet_tuple lc ?_
      simp only [Bool.not_true, Bool.false_eq_true, if_false]
      apply wpAny_bind
      refine class_no l ?_
      simp only [Bool.false_eq_true, if_false]
      apply wpAny_bind
      refine class_no lc ?_
      simp only [Bool.false_eq_true, if_false]
      exact wpAny_pure ⟨rfl, rfl, more⟩
  · obtain ⟨r1, r2⟩ := r
    obtain ⟨rfl, hr, _⟩ := hz
    simp only at hr
    subst hr
    exact wpAny_pure q
/-! ### the table -/
/-- the entries of these keys -/
def ents (P : Program) (w : World) (L : List (Addr × TKey)) : List (Int × Value) := L.map fun p => (hz P w p.2, Value.ref p.1)
/-- their hashes -/
abbrev hzs (P : Program) (w : World) (L : List (Addr × TKey)) : List Int := L.map fun p => hz P w p.2
/-- a set of keys at a -/
structure Set (P : Program) (w : World) (h : Heap) (a : Addr) (L : List (Addr × TKey)) (es : Array (Int × Value)) (ep : Nat) (t : SetTable) : Prop where
  ob : ∃ o, h.get? a = some o ∧ o.ExactSet ∧ o.data = .set es ep t
  en : es.toList = ents P w L
  tb : TabOk t (hzs P w L)
  nd : (L.map (·.2)).Nodup
  ly : ∀ p, p ∈ L → Lies P w h p.2 p.1
  ld : w.params.followText "set-order" = true ∨ t.led = true
  rm : L.length * 5 < t.mask * 3
  fw : L.length < 64
variable {a : Addr} {L : List (Addr × TKey)} {es : Array (Int × Value)} {ep : Nat} {t : SetTable}
theorem ents_size {es : Array (Int × Value)} {L : List (Addr × TKey)} (e : es.toList = ents P w L) : es.size = L.length := by
  rw [← Array.length_toList, e]
  exact List.length_map _
theorem Set.sz (S : Set P w s.heap a L es ep t) : es.size = L.length := ents_size S.en
theorem Set.fit (S : Set P w s.heap a L es ep t) : t.fits es.size = true := by
  have x1 := S.tb.sz
  have x2 := S.sz
  have x3 := S.rm
  rw [List.length_map] at x1
  unfold SetTable.fits SetTable.fill
  rw [S.tb.dm, Bool.and_eq_true, beq_iff_eq, decide_eq_true_eq, x1, x2]
  refine ⟨rfl, ?_⟩
  show L.length + 0 ≤ t.mask
  omega
theorem Set.ent (S : Set P w s.heap a L es ep t) {i : Nat} {p : Addr × TKey} (e : L[i]? = some p) : es[i]? = some (hz P w p.2, Value.ref p.1) := by
  rw [← Array.getElem?_toList, S.en, ents, List.getElem?_map, e]
  rfl
theorem Set.gw (S : Set P w s.heap a L es ep t) : ¬ t.gaveWay = true := by
  unfold SetTable.gaveWay
  rw [mask_odd S.tb.mok]
  decide
/-- the way of a search from its c-th step on -/
abbrev step (m : Nat) (h : Int) (c : Nat) : SetTable.Probe := nth m (runAt m (SetTable.bits h % (m + 1)) (SetTable.bits h)) c
theorem step_j (m : Nat) (h : Int) (c q : Nat) : (nth m (step m h c) q).j = way m h (c + q) := congrArg SetTable.Probe.j (nth_add m c _ q).symm
theorem step_dummy (m : Nat) : ∀ (n : Nat) (p : SetTable.Probe), p.dummy = none → (nth m p n).dummy = none
  | 0, _, e => e
  | n + 1, p, e => step_dummy m n (adv m p) (by unfold adv; split <;> exact e)
/-- the next of equal hash, or the empty slot -/
theorem look {hs : List Int} (T : TabOk t hs) {f : Nat → Int} (hf : ∀ (i : Nat) (h' : Int), hs[i]? = some h' → f i = h') (h : Int) {K c : Nat} (hKf : K < 10 * SetTable.turns t.mask) (hK : way t.mask h K ∉ t.place.toList)
    (hb : ∀ k, k < K → way t.mask h k ∈ t.place.toList) (hc : c ≤ K) :
    (∃ (q i : Nat), c ≤ q ∧ q < K ∧ t.place.toList[i]? = some (way t.mask h q) ∧ (∀ (q' i' : Nat), c ≤ q' → q' < q → t.place.toList[i']? = some (way t.mask h q') → hs[i']? ≠ some h) ∧ t.probe f h (step t.mask h c) = some (.candidate (way t.mask h q) i (step t.mask h (q + 1)))) ∨
    ((∀ (q' i' : Nat), c ≤ q' → q' < K → t.place.toList[i']? = some (way t.mask h q') → hs[i']? ≠ some h) ∧ t.probe f h (step t.mask h c) = some (.empty (way t.mask h K) none)) := by
  have back : ∀ i' : Nat, hs[i']? = some h → f i' = h := fun i' e => hf i' h e
  have spec := go_spec t T.ris T.dm f h (10 * SetTable.turns t.mask) (K - c) (step t.mask h c) (step_dummy _ _ _ rfl) (by omega)
    (fun q hq => by rw [step_j]; exact hb (c + q) (by omega)) (by rw [step_j, show c + (K - c) = K by omega]; exact hK)
  rcases spec with ⟨q, i, hq, hi, _, no, pr⟩ | ⟨no, pr⟩
  · rw [step_j] at hi pr
    rw [show nth t.mask (step t.mask h c) (q + 1) = step t.mask h (c + q + 1) from (nth_add t.mask c _ (q + 1)).symm] at pr
    exact .inl ⟨c + q, i, Nat.le_add_right _ _, by omega, hi, fun q' i' h1 h2 e z => no (q' - c) i' (by omega) (by rw [step_j, show c + (q' - c) = q' by omega]; exact e) (back i' z), pr⟩
  · rw [step_j, show c + (K - c) = K by omega] at pr
    exact .inr ⟨fun q' i' h1 h2 e z => no (q' - c) i' (by omega) (by rw [step_j, show c + (q' - c) = q' by omega]; exact e) (back i' z), pr⟩
/-- the search from the c-th step on: k lies at b -/
theorem seek (S : Set P w s.heap a L es ep t) {b : Addr} {k : TKey} (lk : Lies P w s.heap k b) (hu : A.units < cLine) {K : Nat} (hKf : K < 10 * SetTable.turns t.mask) (hK : way t.mask (hz P w k) K ∉ t.place.toList)
    (hb : ∀ c, c < K → way t.mask (hz P w k) c ∈ t.place.toList) {Q : SetFound → Shared → Prop} (yes : k ∈ L.map (·.2) → Q (.there none) s) (no : k ∉ L.map (·.2) → Q (.free (way t.mask (hz P w k) K) false) s) :
    ∀ (f c : Nat) (stand : Option SetTable.Probe), stand.getD (t.probeStart (hz P w k)) = step t.mask (hz P w k) c → c ≤ K → K - c < f →
      (∀ (i : Nat) p, L[i]? = some p → p.2 = k → ∃ q, c ≤ q ∧ q < K ∧ t.place.toList[i]? = some (way t.mask (hz P w k) q)) → wpAny (model P w) A (setSearchFrom a (.ref b) (hz P w k) true f stand) Q E s
  | 0, c, stand, _, _, hf, _ => absurd hf (Nat.not_lt_zero _)
  | f + 1, c, stand, st, hc, hf, ahead => by
    obtain ⟨o, ho, ex, hd⟩ := S.ob
    have hsAt : ∀ (i : Nat) (p : Addr × TKey), L[i]? = some p → (hzs P w L)[i]? = some (hz P w p.2) := fun i p e => by
      rw [List.getElem?_map, e]
      rfl
    have hf2 : ∀ (i : Nat) (h' : Int), (hzs P w L)[i]? = some h' → (fun i : Nat => (es[i]?.map (·.1)).getD 0) i = h' := fun i h' e => by
      rw [List.getElem?_map] at e
      cases hp : L[i]? with
      | none =>
        rw [hp] at e
        cases e
      | some p =>
        rw [hp] at e
        show (es[i]?.map (·.1)).getD 0 = h'
        rw [S.ent hp]
        exact Option.some.inj e
    rw [setSearchFrom_succ]
    apply wpAny_bind
    refine wpAny_setState_of ho hd S.fit ?_
    dsimp only
    refine wp_if_neg S.gw ?_
    (try (apply wpAny_bind; apply wpAny_pure))
    rw [st]
    rcases look S.tb hf2 (hz P w k) hKf hK hb hc with ⟨q, i, q1, q2, hi, none', pr⟩ | ⟨none', pr⟩
    · rw [pr]
      dsimp only
      have il : i < L.length := by
        have z := (List.getElem?_eq_some_iff.mp hi).1
        have y := S.tb.sz
        rw [List.length_map] at y
        rw [Array.length_toList] at z
        omega
      obtain ⟨p, hp⟩ : ∃ p, L[i]? = some p := ⟨_, List.getElem?_eq_getElem il⟩
      have pm : p ∈ L := List.mem_of_getElem? hp
      have go : wpAny (model P w) A (searchRest a (.ref b) (hz P w k) true f es t (way t.mask (hz P w k) q) i (step t.mask (hz P w k) (q + 1))) Q E s := by
        unfold searchRest
        rw [S.ent hp]
        dsimp only
        apply wpAny_bind
        apply wpAny_holding
        refine wpAny_eqBool_tuple hu (S.ly p pm) lk ?_
        apply wpAny_bind
        refine wpAny_setState_of ho hd S.fit ?_
        dsimp only
        by_cases same : p.2 = k
        · exact wp_if_pos (by simp [same]) (wpAny_pure (yes (List.mem_map.mpr ⟨p, pm, same⟩)))
        · refine wp_if_neg (by simp [same]) ?_
          (try (apply wpAny_bind; apply wpAny_pure))
          rw [sameMem]
          dsimp only
          have sl : t.slot (way t.mask (hz P w k) q) = .live i := slot_live S.tb.ris hi
          simp only [if_true, sl, S.ent hp]
          apply wpAny_bind
          refine wpAny_isSame_ref_self ?_
          apply wpAny_bind
          apply wpAny_pure
          simp only [if_true]
          refine wp_if_neg (by simp [same]) ?_
          refine seek S lk hu hKf hK hb yes no f (q + 1) _ rfl (by omega) (by omega) fun i0 p0 h0 k0 => ?_
          obtain ⟨c', a1, a2, a3⟩ := ahead i0 p0 h0 k0
          refine ⟨c', Nat.succ_le_of_lt ?_, a2, a3⟩
          rcases Nat.lt_trichotomy c' q with z | z | z
          · exact absurd (by rw [hsAt i0 p0 h0, k0]) (none' c' i0 a1 z a3)
          · rw [z] at a3
            have s0 := slot_live S.tb.ris a3
            rw [sl] at s0
            cases s0
            rw [hp] at h0
            cases h0
            exact absurd k0 same
          · exact z
      by_cases hl : t.led = true
      · refine wp_if_neg (by simp [hl]) ?_
        (try (apply wpAny_bind; apply wpAny_pure))
        exact go
      · refine wp_if_pos (by simp [hl]) ?_
        apply wpAny_bind
        refine unseen lk (fun y hy => ?_) ?_
        · obtain ⟨e, he, ee⟩ := List.mem_map.mp hy
          have he2 : e ∈ es.toList := by
            have z : e ∈ es ∧ e.1 = hz P w k := by simpa using he
            simpa using z.1
          rw [S.en] at he2
          obtain ⟨p2, hp2, e2⟩ := List.mem_map.mp he2
          exact ⟨p2.2, p2.1, by rw [← ee, ← e2], S.ly p2 hp2⟩
        · refine wp_if_neg (by decide) ?_
          (try (apply wpAny_bind; apply wpAny_pure))
          exact go
    · rw [pr]
      dsimp only
      refine wpAny_pure (no fun hm => ?_)
      obtain ⟨p0, h0, k0⟩ := List.mem_map.mp hm
      obtain ⟨i0, h00⟩ := List.mem_iff_getElem?.mp h0
      obtain ⟨c', a1, a2, a3⟩ := ahead i0 p0 h00 k0
      exact none' c' i0 a1 a2 a3 (by rw [hsAt i0 p0 h00, k0])
/-- what adding asks -/
theorem seek_at (S : Set P w s.heap a L es ep t) {b : Addr} {k : TKey} (lk : Lies P w s.heap k b) (hu : A.units < cLine) {Q : SetFound → Shared → Prop} (yes : k ∈ L.map (·.2) → Q (.there none) s)
    (no : ∀ K, k ∉ L.map (·.2) → way t.mask (hz P w k) K ∉ t.place.toList → (∀ c, c < K → way t.mask (hz P w k) c ∈ t.place.toList) → Q (.free (way t.mask (hz P w k) K) false) s) :
    wpAny (model P w) A (setSearch a (.ref b) (hz P w k) true) Q E s := by
  have rm := S.rm
  obtain ⟨K, hKf, hK, hb⟩ := S.tb.first (by rw [List.length_map]; omega) (hz P w k)
  have big : K < 100000 := by
    have z : 10 * SetTable.turns t.mask ≤ 1420 := by
      unfold SetTable.turns
      rcases S.tb.mok with e | e | e <;> omega
    omega
  unfold setSearch
  refine seek S lk hu hKf hK hb yes (fun n => no K n hK hb) 100000 0 none rfl (Nat.zero_le _) (by omega) fun i p hp hk => ?_
  have hi : (hzs P w L)[i]? = some (hz P w k) := by
    rw [List.getElem?_map, hp, ← hk]
    rfl
  have il : i < t.place.toList.length := by
    have z := (List.getElem?_eq_some_iff.mp hp).1
    have y := S.tb.sz
    rw [List.length_map] at y
    rw [Array.length_toList]
    omega
  obtain ⟨q, q1, q2⟩ := S.tb.before hK hi (List.getElem?_eq_getElem il)
  exact ⟨q, Nat.zero_le _, q1, by rw [List.getElem?_eq_getElem il, q2]⟩
end
end UA

/-! One more element; the table laid anew. -/
namespace UA
open PySem PySem.Spec PyProof.Rows L2
theorem range_all {α : Type} : ∀ l : List α, (List.range l.length).filterMap (fun i => l[i]?) = l
  | [] => rfl
  | x :: l => by
    rw [List.length_cons, List.range_succ_eq_map, List.filterMap_cons_some (show (fun i : Nat => (x :: l)[i]?) 0 = some x from rfl), List.filterMap_map]
    exact congrArg (x :: ·) (range_all l)
theorem put_some {α : Type} (l : List α) (p : Nat) (x : α) : (l.take p ++ x :: l.drop p).Perm (x :: l) := by
  have z : (l.take p ++ x :: l.drop p).Perm (x :: (l.take p ++ l.drop p)) := List.perm_middle
  rwa [List.take_append_drop] at z
theorem tab_plain {t : SetTable} {hs : List Int} (T : TabOk t hs) (b : Bool) : TabOk { t with plain := b } hs := ⟨T.ris, T.dm, T.sz, T.mok, T.bd, T.reach⟩
section
variable {P : Program} {w : World} {A : Around} {E : Value → Shared → Prop} {s : Shared}
/-- the entries in another order -/
theorem ents_order {L : List (Addr × TKey)} {es : Array (Int × Value)} {order : Array Nat} (he : es.toList = ents P w L) (hp : order.toList.Perm (List.range L.length)) :
    ∃ M, (order.filterMap (es[·]?)).toList = ents P w M ∧ M.Perm L ∧ hzs P w M = order.toList.map fun i => (es.map (·.1)).getD i 0 := by
  have at_ : ∀ i : Nat, es[i]? = (L[i]?).map fun p => (hz P w p.2, Value.ref p.1) := fun i => by
    rw [← Array.getElem?_toList, he, ents, List.getElem?_map]
  refine ⟨order.toList.filterMap fun i => L[i]?, ?_, ?_, ?_⟩
  · rw [Array.toList_filterMap, ents, List.map_filterMap]
    exact congrArg (fun f => List.filterMap f order.toList) (funext at_)
  · have z := hp.filterMap fun i => L[i]?
    rwa [range_all] at z
  · have inside : ∀ i, i ∈ order.toList → i < L.length := fun i hi => List.mem_range.mp (hp.mem_iff.mp hi)
    generalize order.toList = l at inside
    induction l with
    | nil => rfl
    | cons i l ih =>
      have hi := inside i List.mem_cons_self
      have e1 : L[i]? = some L[i] := List.getElem?_eq_getElem hi
      have e2 : (es.map (·.1)).getD i 0 = hz P w L[i].2 := by
        have z : (es.map (·.1))[i]? = some (hz P w L[i].2) := by rw [Array.getElem?_map, at_ i, e1] <;> rfl
        simp [Array.getD_eq_getD_getElem?, z]
      have rest := ih fun j hj => inside j (List.mem_cons_of_mem _ hj)
      rw [List.filterMap_cons_some e1, hzs, List.map_cons, List.map_cons, e2]
      exact congrArg (hz P w L[i].2 :: ·) rest
variable {a : Addr} {L : List (Addr × TKey)} {es : Array (Int × Value)} {ep : Nat} {t : SetTable}
/-- the table is laid anew, larger -/
theorem relay {o : Obj} (ho : s.heap.get? a = some o) (ex : o.ExactSet) (hd : o.data = .set es ep t) (he : es.toList = ents P w L) (sz : t.place.size = es.size) (dm : t.dummies = #[]) (fl : es.size ≤ t.mask) (nd : (L.map (·.2)).Nodup)
    (ly : ∀ p, p ∈ L → Lies P w s.heap p.2 p.1) (ld : w.params.followText "set-order" = true ∨ t.led = true) (fw : L.length < 64) {wanted M : Nat} (e1 : SetTable.sizeAbove wanted - 1 = M) (e2 : MaskOk M) (e3 : SetTable.sizeAbove wanted ≤ 128)
    (e4 : L.length * 5 < M * 3) {Q : Unit → Shared → Prop} (q : ∀ g L' es' ep' t', Heap.SameBut a s.heap g → Set P w g a L' es' ep' t' → L'.Perm L → Q () { s with heap := g }) : wpAny (model P w) A (setRelay a wanted) Q E s := by
  have n := ents_size he
  have ft : t.fits es.size = true := by
    unfold SetTable.fits SetTable.fill
    rw [dm, Bool.and_eq_true, beq_iff_eq, decide_eq_true_eq, sz]
    exact ⟨rfl, fl⟩
  obtain ⟨t', order, r1, r2, T, r3, r4, _, _⟩ := relaid_ok t (hs := es.map (·.1)) e1 e2 (by rw [Array.size_map, n]; omega)
  rw [Array.size_map, n] at r2
  obtain ⟨M', m1, m2, m3⟩ := ents_order he r2
  rw [← m3] at T
  have n2 : (order.filterMap (es[·]?)).size = es.size := by rw [ents_size m1, m2.length_eq, n]
  rw [setRelay_eq]
  apply wpAny_bind
  refine wpAny_setState_of ho hd ft ?_
  dsimp only
  refine wp_if_neg (by rw [sizeLine_eq]; omega) ?_
  (try (apply wpAny_bind; apply wpAny_pure))
  rw [r1]
  dsimp only
  apply wpAny_bind
  refine wp_if_neg (by rw [n2]; simp) ?_
  (try (apply wpAny_bind; apply wpAny_pure))
  apply wpAny_pure
  dsimp only
  refine wpAny_storeSet_of ho hd ?_ (by rw [n2, n, sizeLine_eq]; omega)
  have sb : Heap.SameBut a s.heap (s.heap.update a (Obj.putSet (order.filterMap (es[·]?)) t')) := Heap.SameBut.update s.heap a _
  refine q _ M' _ (ep + 1) t' sb ⟨⟨_, store_at ho hd, ⟨ex.1, ex.2.1, ex.2.2⟩, rfl⟩, m1, T, (m2.map (·.2)).nodup_iff.mpr nd, fun p hp => lies_but (ly p (m2.mem_iff.mp hp)) ho hd sb, ?_, ?_, ?_⟩ m2
  · rw [r4]
    exact ld
  · rw [m2.length_eq, r3]
    exact e4
  · rw [m2.length_eq]
    exact fw
/-- one more, or none where it is in -/
theorem add (S : Set P w s.heap a L es ep t) {b : Addr} {k : TKey} (lk : Lies P w s.heap k b) (hu : A.units < cLine) (fw : L.length + 1 < 64) {Q : Bool → Shared → Prop}
    (q : ∀ y g L' es' ep' t', Heap.SameBut a s.heap g → Set P w g a L' es' ep' t' → (k ∈ L.map (·.2) → L' = L) → (k ∉ L.map (·.2) → L'.Perm ((b, k) :: L)) → Q y { s with heap := g }) :
    wpAny (model P w) A (setAddHashed a (.ref b) (hz P w k)) Q E s := by
  obtain ⟨o, ho, ex, hd⟩ := S.ob
  have n := S.sz
  have rm := S.rm
  unfold setAddHashed
  apply wpAny_holding
  rw [show (100000 : Nat) = 99999 + 1 from rfl, setAddHashedIn_succ]
  apply wpAny_bind
  refine wpAny_setState_of ho hd S.fit ?_
  dsimp only
  refine wp_if_neg (by simp [byScan, Value.scannable]) ?_
  (try (apply wpAny_bind; apply wpAny_pure))
  apply wpAny_bind
  refine seek_at S lk hu (fun hm => ?_) fun K hm hK hb => ?_
  · dsimp only
    exact wpAny_pure (q false s.heap L es ep t (Heap.SameBut.refl a s.heap) S (fun _ => rfl) fun z => absurd hm z)
  dsimp only
  apply wpAny_bind
  refine wpAny_setState_of ho hd S.fit ?_
  dsimp only
  obtain ⟨p1, p2, T, p4, p5, _, p7, p8, p9⟩ := S.tb.put hK hb
  generalize hpt : t.put (way t.mask (hz P w k) K) = pt at p1 T p4 p5 p7 p8 p9 ⊢
  obtain ⟨t1, p⟩ := pt
  dsimp only at p1 T p4 p5 p7 p8 p9 ⊢
  subst p1
  have en1 : (SetTable.insertAt es (SetTable.below t.place (way t.mask (hz P w k) K)) (hz P w k, Value.ref b)).toList = ents P w (L.take (SetTable.below t.place (way t.mask (hz P w k) K)) ++ (b, k) :: L.drop (SetTable.below t.place (way t.mask (hz P w k) K))) := by
    rw [SetTable.toList_insertAt, S.en, ents, ents, List.map_append, List.map_cons, List.map_take, List.map_drop]
  generalize SetTable.below t.place (way t.mask (hz P w k) K) = p at p2 T en1 ⊢
  have pm := put_some L p (b, k)
  have T1 : TabOk t1 (hzs P w (L.take p ++ (b, k) :: L.drop p)) := by
    rw [hzs, List.map_append, List.map_cons, List.map_take, List.map_drop]
    exact T
  have nd1 : ((L.take p ++ (b, k) :: L.drop p).map (·.2)).Nodup := (pm.map (·.2)).nodup_iff.mpr (List.nodup_cons.mpr ⟨hm, S.nd⟩)
  have l1 : (L.take p ++ (b, k) :: L.drop p).length = L.length + 1 := pm.length_eq
  have n1 := ents_size en1
  generalize SetTable.insertAt es p (hz P w k, Value.ref b) = es1 at en1 n1 ⊢
  generalize L.take p ++ (b, k) :: L.drop p = L1 at pm T1 nd1 l1 en1 n1
  have fin : ∀ t2 : SetTable, TabOk t2 (hzs P w L1) → t2.mask = t.mask → t2.led = t.led → t2.fill = L.length + 1 →
      wpAny (model P w) A (do
        storeSet a es1 t2
        if (!false && t2.tooFull) = true then do
            setRelay a (SetTable.grown (es.size + 1))
            pure true
          else pure true) Q E s := fun t2 T2 k1 k2 k3 => by
    apply wpAny_bind
    refine wpAny_storeSet_of ho hd ?_ (by rw [n1, l1, sizeLine_eq]; omega)
    have sb := Heap.SameBut.update s.heap a (Obj.putSet es1 t2)
    have ho1 := store_at (es' := es1) (t' := t2) ho hd
    generalize s.heap.update a (Obj.putSet es1 t2) = h1 at sb ho1 ⊢
    have ly1 : ∀ p, p ∈ L1 → Lies P w h1 p.2 p.1 := fun p hp => by
      rcases List.mem_cons.mp (pm.mem_iff.mp hp) with rfl | hp
      · exact lies_but lk ho hd sb
      · exact lies_but (S.ly p hp) ho hd sb
    have ld1 : w.params.followText "set-order" = true ∨ t2.led = true := by
      rw [k2]
      exact S.ld
    by_cases full : t2.tooFull = true
    · refine wp_if_pos (by simp [full]) ?_
      have f1 : (L.length + 1) * 5 ≥ t2.mask * 3 := by
        unfold SetTable.tooFull at full
        rw [decide_eq_true_eq, k3] at full
        exact full
      rw [k1] at f1
      have two : (t.mask = 7 ∧ L.length = 4) ∨ (t.mask = 31 ∧ L.length = 18) := by
        rcases S.tb.mok with e | e | e
        · rw [e] at f1 rm
          exact .inl ⟨e, by omega⟩
        · rw [e] at f1 rm
          exact .inr ⟨e, by omega⟩
        · rw [e] at f1 rm
          omega
      have sz2 : t2.place.size = es1.size := by
        have z := T2.sz
        rw [List.length_map] at z
        rw [z, n1]
      rw [n]
      have go : ∀ M, SetTable.sizeAbove (SetTable.grown (L.length + 1)) - 1 = M → MaskOk M → SetTable.sizeAbove (SetTable.grown (L.length + 1)) ≤ 128 → (L.length + 1) * 5 < M * 3 →
          wpAny (model P w) A (setRelay a (SetTable.grown (L.length + 1)) >>= fun _ => pure true) Q E { s with heap := h1 } := fun M g1 g2 g3 g4 => by
        apply wpAny_bind
        refine relay (s := { s with heap := h1 }) ho1 ⟨ex.1, ex.2.1, ex.2.2⟩ rfl en1 sz2 T2.dm (by rw [n1, l1, k1]; rcases two with ⟨e, e'⟩ | ⟨e, e'⟩ <;> omega) nd1 ly1 ld1 (by rw [l1]; exact fw) g1 g2 g3 (by rw [l1]; exact g4)
          fun g L2 es2 ep2 t3 sb2 S2 pm2 => wpAny_pure (q true g L2 es2 ep2 t3 (sb.trans sb2) S2 (fun z => absurd z hm) fun _ => pm2.trans pm)
      rcases two with ⟨_, e⟩ | ⟨_, e⟩
      · exact go 31 (by rw [e, size_20]) (.inr (.inl rfl)) (by rw [e, size_20]; decide) (by omega)
      · exact go 127 (by rw [e, size_76]) (.inr (.inr rfl)) (by rw [e, size_76]; decide) (by omega)
    · refine wp_if_neg (by simp [full]) ?_
      refine wpAny_pure (q true h1 L1 es1 (ep + 1) t2 sb ⟨⟨_, ho1, ⟨ex.1, ex.2.1, ex.2.2⟩, rfl⟩, en1, T2, nd1, ly1, ld1, ?_, by rw [l1]; exact fw⟩ (fun z => absurd z hm) fun _ => pm)
      unfold SetTable.tooFull at full
      rw [decide_eq_true_eq, k3] at full
      rw [l1]
      omega
  have f9 : t1.fill = L.length + 1 := by rw [p9, List.length_map]
  -- whether the table stays plain does not matter
  by_cases pl : t1.plain = true
  · refine wp_if_pos pl ?_
    apply wpAny_bind
    refine value_any lk fun y => ?_
    cases y with
    | true => exact fin t1 T1 p4 p5 f9
    | false => exact fin { t1 with plain := false } (tab_plain T1 false) p4 p5 f9
  · refine wp_if_neg pl ?_
    apply wpAny_bind
    apply wpAny_pure
    exact fin t1 T1 p4 p5 f9
end
end UA

namespace GR
open PySem PySem.Spec PyProof.Rows L2
theorem FnG.mono {P : Program} {w : World} {K : PySem.W.Frag} {mg : Str → Option Value} {base : Heap} {CX : CXT} {j k : Nat} {f : Addr} {fd : FuncData} {ps : List Str} {sp : Sp} (F : FnG P w K mg base CX j f fd ps sp) (h : j ≤ k) : FnG P w K mg base CX k f fd ps sp :=
  ⟨F.size, fun A outer s H args us vs Q E g hr => F.go A outer s H args us vs Q E g (hr.mono h)⟩
/-! ### the signs of what repr shows -/
abbrev SO (x : Str) : Prop := ∀ c, c ∈ x.cps.toList → c < 0x110000
theorem so_iff {x : Str} : PyData.strOk x = true ↔ SO x := by
  unfold PyData.strOk
  rw [Array.all_eq_true']
  constructor
  · intro h c hc
    have := h c (by simpa using hc)
    simpa using this
  · intro h c hc
    have := h c (by simpa using hc)
    simpa using this
theorem so_append {x y : Str} (hx : SO x) (hy : SO y) : SO (x ++ y) := fun c hc => by
  rcases mem_cps_append.mp hc with h | h
  · exact hx c h
  · exact hy c h
theorem so_join {sep : Str} (hs : SO sep) {ts : List Str} (h : ∀ t, t ∈ ts → SO t) : SO (Str.join sep ts) := fun c hc => by
  rcases (mem_join sep c ts).mp hc with ⟨t, ht, hc⟩ | ⟨_, hc⟩
  · exact h t ht c hc
  · exact hs c hc
theorem hex_so (w c : Nat) : ∀ k, k ∈ List.replicate (w - ((Nat.toDigits 16 c).map Char.toNat).length) 48 ++ (Nat.toDigits 16 c).map Char.toNat → k < 0x110000 := by
  intro k hk
  rcases List.mem_append.mp hk with h | h
  · have := List.eq_of_mem_replicate h
    omega
  · obtain ⟨ch, _, rfl⟩ := List.mem_map.mp h
    have := ch.valid
    have e : ch.toNat = ch.val.toNat := rfl
    rcases this with h | ⟨_, h⟩
    · have h' : ch.val.toNat < 0xd800 := h
      omega
    · have h' : ch.val.toNat < 0x110000 := h
      omega
theorem reprChar_so {q c : Nat} (hc : c < 0x110000) : ∀ k, k ∈ Builtin.Str.reprChar q c → k < 0x110000 := by
  intro k hk
  have h8 := hex_so 8 c k
  have h4 := hex_so 4 c k
  have h2 := hex_so 2 c k
  unfold Builtin.Str.reprChar at hk
  dsimp only at hk
  repeat' split at hk
  all_goals first
    | (rcases List.mem_append.mp hk with hk | hk
       · (simp only [List.mem_cons, List.not_mem_nil, or_false] at hk; omega)
       · first | exact h2 hk | exact h4 hk | exact h8 hk)
    | (simp only [List.mem_cons, List.not_mem_nil, or_false] at hk; omega)
theorem fold_so {q : Nat} : ∀ (l : List Nat) (acc : Array Nat), (∀ c, c ∈ l → c < 0x110000) → (∀ c, c ∈ acc.toList → c < 0x110000) → ∀ c, c ∈ (l.foldl (fun out c => out ++ (Builtin.Str.reprChar q c).toArray) acc).toList → c < 0x110000
  | [], acc, _, h => h
  | d :: r, acc, hl, h => by
    rw [List.foldl_cons]
    refine fold_so r _ (fun c hc => hl c (List.mem_cons_of_mem _ hc)) fun c hc => ?_
    rw [Array.toList_append, List.mem_append] at hc
    rcases hc with hc | hc
    · exact h c hc
    · exact reprChar_so (hl d List.mem_cons_self) c (by simpa using hc)
theorem repr_so {x : Str} (h : SO x) : SO (reprText x) := fun c hc => by
  have hq : reprQuote x < 0x110000 := by
    unfold reprQuote
    split <;> decide
  unfold reprText at hc
  have hc' : c ∈ ((x.cps.foldl (fun out c => out ++ (Builtin.Str.reprChar (reprQuote x) c).toArray) #[reprQuote x]).push (reprQuote x)).toList := hc
  rw [Array.toList_push, List.mem_append] at hc'
  rcases hc' with hc' | hc'
  · rw [← Array.foldl_toList] at hc'
    refine fold_so x.cps.toList _ h (fun c hc => ?_) c hc'
    have : c = reprQuote x := by simpa using hc
    rw [this]
    exact hq
  · have : c = reprQuote x := by simpa using hc'
    rw [this]
    exact hq
mutual
theorem shown_so : ∀ d : PyData, d.canLay0 = true → SO d.shown
  | .none, _ => by rw [PyData.shown_none]; decide
  | .bool b, _ => by
    rw [PyData.shown_bool]
    cases b <;> decide
  | .int i, _ => fun c hc => by
    by_cases h : 57 < c
    · exact absurd hc (shown_int_free' (k := c) ⟨by omega, .inr h⟩ i)
    · omega
  | .str x, h => by
    rw [PyData.shown_str]
    exact repr_so (so_iff.mp (by simpa [PyData.canLay0] using h))
  | .list xs, h => by
    rw [PyData.shown_list]
    exact so_append (so_append (by decide) (so_join (by decide) (shownAll_so xs (by simpa [PyData.canLay0] using h)))) (by decide)
  | .tuple xs, h => by
    rw [PyData.shown_tuple]
    refine so_append (so_append (by decide) (so_join (by decide) (shownAll_so xs (by simpa [PyData.canLay0] using h)))) ?_
    split <;> decide
  | .dict _, h => by simp [PyData.canLay0] at h
theorem shownAll_so : ∀ xs : List PyData, PyData.canLayAll0 xs = true → ∀ t, t ∈ PyData.shownAll xs → SO t
  | [], _, t, ht => by rw [PyData.shownAll_nil] at ht; exact absurd ht (by simp)
  | x :: xs, h, t, ht => by
    have h' : x.canLay0 = true ∧ PyData.canLayAll0 xs = true := by simpa [PyData.canLayAll0] using h
    rw [PyData.shownAll_cons, List.mem_cons] at ht
    rcases ht with rfl | ht
    · exact shown_so x h'.1
    · exact shownAll_so xs h'.2 t ht
end
theorem shown_ok {d : PyData} (h : d.canLay0 = true) : PyData.strOk d.shown = true := so_iff.mpr (shown_so d h)
section
variable {X : Cx} {pins : List (Addr × Obj)} {σ : L2.St} {H : Hp} {s : Shared}
/-- repr of a truth -/
def rReprB : List V → Hp → VK → Prop := fun xs H Q => ∃ b, xs = [.bl b] ∧ Q (.str (PyData.bool b).shown) H
theorem call_reprB : CallR X (.builtin "repr") rReprB := by
  intro pins s σ H xs us Q I r h
  obtain ⟨b, rfl, q⟩ := h
  obtain ⟨u, rfl, rv⟩ := vals1 r
  obtain rfl : u = Value.bool b := rv
  rw [PyData.shown_bool] at q
  exact P.repr_of_bool ⟨.str _, H, I.kept fun _ _ e => e, ⟨_, rfl⟩, q⟩
end
end GR

/-! set(a list of ints), to be sorted: the library knows this call for tuples only, and as len(set(..)). -/
namespace SI
open PySem PySem.Spec PyProof.Rows L2 GR
/-- what set.__new__ makes -/
abbrev bare (w : World) : Obj := { cls := .type "set", dict := none, data := .set #[] 0 (.fresh 0 0 (!w.params.followText "set-order")) }
section
variable {P : Program} {w : World} {A : Around} {E : Value → Shared → Prop} {s : Shared}
/-- the state behind set.__new__ -/
abbrev made (w : World) (s : Shared) : Shared := { s with heap := s.heap.push (bare w) }
/-- behind set.__init__: the ints of the list, what lay there before lies there -/
def Filled (w : World) (s : Shared) (ns : List Int) (s₂ : Shared) : Prop := ∃ h' tk c, s₂ = { s with heap := h', toks := tk } ∧ SetR w h' s.heap.objs.size (fun j => decide (j ∈ ns)) c ∧ c ≤ ns.length ∧ ∀ b o, s.heap.get? b = some o → h'.get? b = some o
theorem at_made : (made w s).heap.get? s.heap.objs.size = some (bare w) := Heap.get?_push_size _ rfl
theorem item_ints {items : Array Value} {ns : List Int} (hit : IntsAre items.toList ns) (i : Nat) (v : Value) (hv : items[i]? = some v) : ∃ k t, ns[i]? = some k ∧ v = .int k t := by
  have hl := IntsAre.length hit
  rw [Array.length_toList] at hl
  have hi : i < ns.length := hl ▸ (Array.getElem?_eq_some_iff.mp hv).1
  obtain ⟨t, e⟩ := PyProof.Rows.IntsAre.int_at hit i v (by rw [Array.getElem?_toList]; exact hv)
  exact ⟨ns[i], t, List.getElem?_eq_getElem hi, by rw [e, List.getD_eq_getElem?_getD, List.getElem?_eq_getElem hi] <;> rfl⟩
/-- set(l) -/
theorem call_set_ints {l : Addr} {items : Array Value} {ns : List Int} {Q : Value → Shared → Prop} (hh : A.handled = none) (hl : s.heap.IsList l items) (hit : IntsAre items.toList ns) (hb : ns.length + 1 < scanBound)
    (q : ∀ s₂, Filled w s ns s₂ → Q (.ref s.heap.objs.size) s₂) : wpAny (model P w) A (call (.type "set") [.ref l]) Q E s := by
  have K := F.called_set
  obtain ⟨c, tl, hmro⟩ := K.mro
  have m1 := K.made
  have m2 := K.sub
  have m3 := K.notType
  have m4 := K.canCreate
  have m5 := F.typeCall_set_1 (.ref l)
  refine wpAny_call (codeAny_of_tree (show wpAny _ _ (callAny (.type "set") _) _ _ _ from wpAny_pure ⟨Code.quiet_builtin _ (by decide +kernel), codeAny_builtin F.entry_type_call ?_⟩))
  rw [Around.under_plain (weight_type_call_type "set" [.ref l] []) rfl]
  repeat (any_goals (first | assumption | wp_step))
  refine codeAny_mono (code_set_led1 (.ref l) (E := E) (Q₁ := fun u s₁ => u = .ref s.heap.objs.size ∧ s₁ = made w s) ⟨rfl, rfl⟩) fun r s₁ hr => ?_
  rcases r with e | fl
  · exact hr
  cases fl with
  | ret u =>
    obtain ⟨rfl, rfl⟩ := hr
    have hS := at_made (w := w) (s := s)
    have hT : Shared.TypeIs (made w s) (.ref s.heap.objs.size) "set" := ⟨_, hS, rfl⟩
    have m6 := K.init.lookup
    have m7 := K.init.bind (.ref s.heap.objs.size)
    repeat (any_goals (first | assumption | wp_step))
    refine codeAny_mono (codeAny_call_builtin (R := wants (fun r s₂ => r = .none ∧ Filled w s ns s₂) E) K.init.plain F.entry_set_init (check_set_init_1 hT ?_)) fun r₂ s₂ hr₂ => ?_
    · have hlen : items.size = ns.length := by
        have := IntsAre.length hit
        rwa [Array.length_toList] at this
      obtain ⟨⟨oc, od, ot, os⟩, hol, hcl, nl, hdl⟩ := hl
      simp only at hcl hdl
      subst hcl
      subst hdl
      have hlS : l < s.heap.objs.size := Heap.lt_size hol
      have hl1 : (made w s).heap.IsList l items := ⟨_, Heap.get?_push_of_some _ hol, rfl, nl, rfl⟩
      have hol' : (made w s).heap.get? l = some { cls := .type "list", dict := od, data := .seq items nl, slots := os } := Heap.get?_push_of_some _ hol
      have m8 := F.sub_list_set
      have m9 := F.sub_list_frozenset
      have m10 : (Value.type "list" == Value.type "dict") = false := by decide
      unfold Builtin.«set.__init__» noKeywords Builtin.Frozenset.updateFrom
      generalize hPI : pyIter = PI
      wp_walk
      subst hPI
      refine wpAny_pyIter_list hl1 (wpAny_bind (wpAny_runValue ?_))
      have hn : (made w s).heap.objs.size = s.heap.objs.size + 1 := Heap.size_push ..
      have far : s.heap.objs.size ∉ [(made w s).heap.objs.size, l] := by
        rw [hn]
        simp only [List.mem_cons, List.not_mem_nil, or_false, not_or]
        exact ⟨Nat.ne_of_lt (Nat.lt_succ_self _), Nat.ne_of_gt hlS⟩
      refine set_update_ints ((Walks.list (A := A.in1.in1.in1) (by simp [hh]) _ l (by rw [hn]; exact Nat.ne_of_lt (Nat.lt_succ_of_lt hlS)) items).toS) s.heap.objs.size far ns hlen hb (item_ints hit) (items.size - 0) 0 _ (by omega) (Nat.zero_le _)
        ⟨⟨_, Heap.get?_push_size _ rfl, rfl, rfl⟩, hl1.push _⟩ ⟨0, Nat.le_refl 0, setR_new_at (Heap.get?_push_of_some _ hS)⟩ ?_
      intro s' c' hm hc' hS'
      obtain ⟨h', g2, d', tk', os'⟩ := s'
      obtain rfl : g2 = s.gens := hm.gens
      obtain rfl : d' = s.drawn := hm.drawn
      obtain rfl : os' = s.os := hm.os
      show wpAny _ _ _ _ _ _
      refine wpAny_pure (show wpAny _ _ (ret Value.none) _ _ _ from wpAny_pure ⟨rfl, h', tk', c', rfl, hS', hlen ▸ hc', fun b o e => hm.heap b o ?_ (Heap.get?_push_of_some _ (Heap.get?_push_of_some _ e))⟩)
      have hb0 : b < s.heap.objs.size := Heap.lt_size e
      rw [hn]
      simp only [List.mem_cons, List.not_mem_nil, or_false, not_or]
      exact ⟨Nat.ne_of_lt hb0, Nat.ne_of_lt (Nat.lt_succ_of_lt hb0)⟩
    · rcases r₂ with e | fl
      · exact hr₂
      cases fl with
      | ret u =>
        obtain ⟨rfl, hF⟩ := hr₂
        repeat (any_goals (first | assumption | wp_step))
        exact q _ hF
      | _ => exact hr₂.elim
  | _ => exact hr.elim
end
section
variable {X : Cx}
/-- set(xs), xs a list of ints -/
def rSetI (K : PySem.W.Frag) (w : World) : List V → Hp → VK → Prop := fun xs H Q => ∃ (l : Addr) (ns : List Int), xs = [.ref l] ∧ SqL K H l (ns.map V.int) ∧ ns.length ≤ 1000 ∧
  ∀ (a : Addr) (c : Nat), H a = none → c ≤ ns.length → Q (.ref a) (upd H a (SetO w a (fun j => decide (j ∈ ns)) c))
theorem cr_setI (hc : X.calm = true) : CallR X (.type "set") (rSetI X.K X.w) := by
  intro pins s σ H xs us Q I r h
  obtain ⟨l, ns, rfl, hl, hn, q⟩ := h
  rw [Vals.ref1 r]
  obtain ⟨its, rv, pl, hz⟩ := I.list hl
  refine call_set_ints (ns := ns) (I.ok.hd hc) pl.isList (by simpa using ints_of_vals rv) (by unfold scanBound; omega) fun s₂ ⟨h', tk, c, e, R, hcn, k⟩ => ?_
  subst e
  exact ⟨.ref s.heap.objs.size, upd H s.heap.objs.size (SetO X.w s.heap.objs.size (fun j => decide (j ∈ ns)) c), I.laid (t' := tk) k (Nat.le_refl _) (setO_new R), rfl, q _ c (I.hok.fresh (Nat.le_refl _)) hcn⟩
end
end SI

/-! set(a list of tuples of texts and ints). -/
namespace UA
open PySem PySem.Spec PyProof.Rows L2
/-- what has come of the first i of these keys -/
def From (ks : List (Addr × TKey)) (i : Nat) (L : List (Addr × TKey)) : Prop := (∀ p, p ∈ L → p ∈ ks.take i) ∧ ∀ p, p ∈ ks.take i → p.2 ∈ L.map (·.2)
theorem From.next {ks L L' : List (Addr × TKey)} {i : Nat} {x : Addr × TKey} (g : From ks i L) (hx : ks[i]? = some x) (h1 : x.2 ∈ L.map (·.2) → L' = L) (h2 : x.2 ∉ L.map (·.2) → L'.Perm (x :: L)) : From ks (i + 1) L' := by
  have tk : ks.take (i + 1) = ks.take i ++ [x] := by rw [List.take_add_one, hx]; rfl
  rw [From, tk]
  rcases Classical.em (x.2 ∈ L.map (·.2)) with c | c
  · rw [h1 c]
    refine ⟨fun p hp => List.mem_append_left _ (g.1 p hp), fun p hp => ?_⟩
    rcases List.mem_append.mp hp with z | z
    · exact g.2 p z
    · rw [List.mem_singleton.mp z]
      exact c
  · have pm := h2 c
    refine ⟨fun p hp => ?_, fun p hp => ?_⟩
    · rcases List.mem_cons.mp (pm.mem_iff.mp hp) with rfl | z
      · exact List.mem_append_right _ List.mem_cons_self
      · exact List.mem_append_left _ (g.1 p z)
    · rw [(pm.map (·.2)).mem_iff, List.map_cons]
      rcases List.mem_append.mp hp with z | z
      · exact List.mem_cons_of_mem _ (g.2 p z)
      · rw [List.mem_singleton.mp z]
        exact List.mem_cons_self
/-- all that are unlike are few -/
def Few (ks : List (Addr × TKey)) : Prop := ∀ M : List TKey, M.Nodup → (∀ k, k ∈ M → k ∈ ks.map (·.2)) → M.length ≤ 62
section
variable {P : Program} {w : World} {A : Around} {E : Value → Shared → Prop} {s : Shared}
theorem Set.on {h g : Heap} {a : Addr} {L : List (Addr × TKey)} {es : Array (Int × Value)} {ep : Nat} {t : SetTable} (S : Set P w h a L es ep t) (ha : ∀ o, h.get? a = some o → g.get? a = some o) (hl : ∀ p, p ∈ L → Lies P w g p.2 p.1) : Set P w g a L es ep t := by
  obtain ⟨⟨o, ho, r⟩, h2, h3, h4, _, h6, h7, h8⟩ := S
  exact ⟨⟨o, ha o ho, r⟩, h2, h3, h4, hl, h6, h7, h8⟩
theorem set_new {h : Heap} {a : Addr} (ho : h.get? a = some (SI.bare w)) : Set P w h a [] #[] 0 (.fresh 0 0 (!w.params.followText "set-order")) := by
  refine ⟨⟨_, ho, ⟨rfl, rfl, rfl⟩, rfl⟩, rfl, ⟨.nil, rfl, rfl, .inl rfl, fun x hx => (nomatch hx), fun i h j hi => by simp at hi⟩, .nil, fun p hp => (nomatch hp), ?_, by show 0 * 5 < 7 * 3; decide, by decide⟩
  show w.params.followText "set-order" = true ∨ (!w.params.followText "set-order") = true
  cases w.params.followText "set-order"
  · exact .inr rfl
  · exact .inl rfl
theorem set_loop {I : Addr} {fp wr : List Addr} {G : Array GenState → Array GenState → Prop} {n : Nat} {Pv : Nat → Value → Prop} {St : Nat → Shared → Prop} {R : Result → Shared → Prop} (W : WalksS P w A.in1 I fp wr G n Pv St) (S : Addr) (far : S ∉ fp)
    (ks : List (Addr × TKey)) (hn : n = ks.length) (few : Few ks) (val : ∀ i v, Pv i v → ∃ p, ks[i]? = some p ∧ v = .ref p.1) (g0 : Heap) (ly : ∀ p, p ∈ ks → Lies P w g0 p.2 p.1) (nS : g0.get? S = none) (nw : ∀ b, b ∈ wr → g0.get? b = none) (hu : A.in1.units < cLine) :
    ∀ (m i : Nat) (s : Shared), n - i = m → i ≤ n → St i s → (∀ b o, g0.get? b = some o → s.heap.get? b = some o) → (∃ L es ep t, Set P w s.heap S L es ep t ∧ From ks i L) →
      (∀ s' L es ep t, Moved (S :: wr) G s s' → Set P w s'.heap S L es ep t → From ks n L → R (.ok (.ret .none)) s') → codeAny (model P w) A (.builtin "set.update.loop" ⟨[.ref S, .ref I], []⟩) R s
  | 0, i, s, hm, hi, st, old, ⟨L, es, ep, t, hS, g⟩, q => by
    obtain rfl : i = n := by omega
    refine codeAny_builtin F.entry_set_update_loop ?_
    rw [Around.under_plainId F.plain_set_update_loop _]
    show wpAny _ A.in1 (pyNext (.ref I) >>= _) _ _ s
    apply wpAny_bind
    refine W.done s _ _ st fun s' mv => ?_
    have old' : ∀ b o, g0.get? b = some o → s'.heap.get? b = some o := fun b o e => mv.heap b o (fun z => by rw [nw b z] at e; cases e) (old b o e)
    exact wpAny_pure (q s' L es ep t (mv.mono fun b hb => List.mem_cons_of_mem _ hb) (hS.on (fun o e => mv.heap S o (fun z => far (W.sub _ z)) e) fun p hp => lies_keep (ly p (List.mem_of_mem_take (g.1 p hp))) old') g)
  | m + 1, i, s, hm, hi, st, old, ⟨L, es, ep, t, hS, g⟩, q => by
    have lt : i < n := by omega
    refine codeAny_builtin F.entry_set_update_loop ?_
    rw [Around.under_plainId F.plain_set_update_loop _]
    show wpAny _ A.in1 (pyNext (.ref I) >>= _) _ _ s
    apply wpAny_bind
    refine W.item i s _ _ lt st fun v s' hv st' mv => ?_
    obtain ⟨p, hp, rfl⟩ := val i v hv
    have old' : ∀ b o, g0.get? b = some o → s'.heap.get? b = some o := fun b o e => mv.heap b o (fun z => by rw [nw b z] at e; cases e) (old b o e)
    have hS' : Set P w s'.heap S L es ep t := hS.on (fun o e => mv.heap S o (fun z => far (W.sub _ z)) e) fun p hp => lies_keep (ly p (List.mem_of_mem_take (g.1 p hp))) old'
    have lp := lies_keep (ly p (List.mem_of_getElem? hp)) old'
    have fw := few (L.map (·.2)) hS'.nd fun k hk => by
      obtain ⟨p, hp, rfl⟩ := List.mem_map.mp hk
      exact List.mem_map.mpr ⟨p, List.mem_of_mem_take (g.1 p hp), rfl⟩
    rw [List.length_map] at fw
    show wpAny _ A.in1 (holding [Value.ref p.1] (setAdd S (.ref p.1)) >>= _) _ _ s'
    apply wpAny_bind
    apply wpAny_holding
    unfold setAdd
    apply wpAny_holding
    apply wpAny_bind
    refine wpAny_pyHash_tuple hu lp ?_
    refine add (s := { s' with toks := s'.toks + (p.2.length + 1) }) hS' lp hu (by omega) fun y h' L' es' ep' t' sb hS2 c1 c2 => ?_
    have old2 : ∀ b o, g0.get? b = some o → h'.get? b = some o := fun b o e => (sb.2 b (fun z => by rw [z, nS] at e; cases e)).trans (old' b o e)
    refine wpAny_pure ⟨plainId_quiet F.plain_set_update_loop _, set_loop W S far ks hn few val g0 ly nS nw hu m (i + 1) _ (by omega) lt (W.frame _ s' _ _ st' (Nat.le_add_right _ _) fun b hb o e => ?_) old2 ⟨L', es', ep', t', hS2, g.next hp c1 c2⟩
      fun s'' L2 es2 ep2 t2 mv2 hS3 g2 => q s'' L2 es2 ep2 t2 (Moved.trans W.gtrans ((mv.mono fun b hb => List.mem_cons_of_mem _ hb).then_heap (Nat.le_add_right _ _) fun b o hb e => ?_) mv2) hS3 g2⟩
    · rw [sb.2 b fun z => far (z ▸ hb)]
      exact e
    · rw [sb.2 b fun z => hb (z ▸ List.mem_cons_self)]
      exact e
/-- behind set(l) -/
def Full (P : Program) (w : World) (s : Shared) (ks : List (Addr × TKey)) (s₂ : Shared) : Prop := ∃ h' tk L es ep t, s₂ = { s with heap := h', toks := tk } ∧ Set P w h' s.heap.objs.size L es ep t ∧ From ks ks.length L ∧ ∀ b o, s.heap.get? b = some o → h'.get? b = some o
theorem none_past {h : Heap} {b : Addr} (e : h.objs.size ≤ b) : h.get? b = none := by
  cases z : h.get? b with
  | none => rfl
  | some o => exact absurd (Heap.lt_size z) (Nat.not_lt_of_le e)
theorem call_set {l : Addr} {items : Array Value} {ks : List (Addr × TKey)} {Q : Value → Shared → Prop} (hh : A.handled = none) (hu : A.units + 3 < cLine) (hl : s.heap.IsList l items) (hit : items.toList = ks.map fun p => Value.ref p.1) (ly : ∀ p, p ∈ ks → Lies P w s.heap p.2 p.1) (few : Few ks)
    (q : ∀ s₂, Full P w s ks s₂ → Q (.ref s.heap.objs.size) s₂) : wpAny (model P w) A (call (.type "set") [.ref l]) Q E s := by
  have K := F.called_set
  obtain ⟨c, tl, hmro⟩ := K.mro
  have m1 := K.made
  have m2 := K.sub
  have m3 := K.notType
  have m4 := K.canCreate
  have m5 := F.typeCall_set_1 (.ref l)
  refine wpAny_call (codeAny_of_tree (show wpAny _ _ (callAny (.type "set") _) _ _ _ from wpAny_pure ⟨Code.quiet_builtin _ (by decide +kernel), codeAny_builtin F.entry_type_call ?_⟩))
  rw [Around.under_plain (weight_type_call_type "set" [.ref l] []) rfl]
  repeat (any_goals (first | assumption | wp_step))
  refine codeAny_mono (code_set_led1 (.ref l) (E := E) (Q₁ := fun u s₁ => u = .ref s.heap.objs.size ∧ s₁ = SI.made w s) ⟨rfl, rfl⟩) fun r s₁ hr => ?_
  rcases r with e | fl
  · exact hr
  cases fl with
  | ret u =>
    obtain ⟨rfl, rfl⟩ := hr
    have hS := SI.at_made (w := w) (s := s)
    have hT : Shared.TypeIs (SI.made w s) (.ref s.heap.objs.size) "set" := ⟨_, hS, rfl⟩
    have m6 := K.init.lookup
    have m7 := K.init.bind (.ref s.heap.objs.size)
    repeat (any_goals (first | assumption | wp_step))
    refine codeAny_mono (codeAny_call_builtin (R := wants (fun r s₂ => r = .none ∧ Full P w s ks s₂) E) K.init.plain F.entry_set_init (check_set_init_1 hT ?_)) fun r₂ s₂ hr₂ => ?_
    · have hlen : items.size = ks.length := by
        have z := congrArg List.length hit
        rwa [Array.length_toList, List.length_map] at z
      obtain ⟨⟨oc, od, ot, os⟩, hol, hcl, nl, hdl⟩ := hl
      simp only at hcl hdl
      subst hcl
      subst hdl
      have hlS : l < s.heap.objs.size := Heap.lt_size hol
      have hl1 : (SI.made w s).heap.IsList l items := ⟨_, Heap.get?_push_of_some _ hol, rfl, nl, rfl⟩
      have hol' : (SI.made w s).heap.get? l = some { cls := .type "list", dict := od, data := .seq items nl, slots := os } := Heap.get?_push_of_some _ hol
      have m8 := F.sub_list_set
      have m9 := F.sub_list_frozenset
      have m10 : (Value.type "list" == Value.type "dict") = false := by decide
      unfold Builtin.«set.__init__» noKeywords Builtin.Frozenset.updateFrom
      generalize hPI : pyIter = PI
      wp_walk
      subst hPI
      refine wpAny_pyIter_list hl1 (wpAny_bind (wpAny_runValue ?_))
      have hn : (SI.made w s).heap.objs.size = s.heap.objs.size + 1 := Heap.size_push ..
      have far : s.heap.objs.size ∉ [(SI.made w s).heap.objs.size, l] := by
        rw [hn]
        simp only [List.mem_cons, List.not_mem_nil, or_false, not_or]
        exact ⟨Nat.ne_of_lt (Nat.lt_succ_self _), Nat.ne_of_gt hlS⟩
      refine set_loop ((Walks.list (A := A.in1.in1.in1) (by simp [hh]) _ l (by rw [hn]; exact Nat.ne_of_lt (Nat.lt_succ_of_lt hlS)) items).toS) s.heap.objs.size far ks hlen few (fun i v hv => ?_) s.heap ly (none_past (Nat.le_refl _))
        (fun b hb => none_past (by rw [List.mem_singleton.mp hb, hn]; exact Nat.le_succ _)) (by show A.units + 1 + 1 + 1 < cLine; omega) (items.size - 0) 0 _ (by omega) (Nat.zero_le _) ⟨⟨_, Heap.get?_push_size _ rfl, rfl, rfl⟩, hl1.push _⟩
        (fun b o e => Heap.get?_push_of_some _ (Heap.get?_push_of_some _ e)) ⟨[], #[], 0, _, set_new (Heap.get?_push_of_some _ hS), fun p hp => (nomatch hp), fun p hp => (nomatch hp)⟩ ?_
      · have z : items.toList[i]? = some v := by rw [Array.getElem?_toList]; exact hv
        rw [hit, List.getElem?_map] at z
        cases e : ks[i]? with
        | none =>
          rw [e] at z
          cases z
        | some p =>
          rw [e] at z
          exact ⟨p, rfl, (Option.some.inj z).symm⟩
      · intro s' L es ep t hm hS' g'
        obtain ⟨h', g2, d', tk', os'⟩ := s'
        obtain rfl : g2 = s.gens := hm.gens
        obtain rfl : d' = s.drawn := hm.drawn
        obtain rfl : os' = s.os := hm.os
        show wpAny _ _ _ _ _ _
        rw [hlen] at g'
        refine wpAny_pure (show wpAny _ _ (ret Value.none) _ _ _ from wpAny_pure ⟨rfl, h', tk', L, es, ep, t, rfl, hS', g', fun b o e => hm.heap b o ?_ (Heap.get?_push_of_some _ (Heap.get?_push_of_some _ e))⟩)
        have hb0 : b < s.heap.objs.size := Heap.lt_size e
        rw [hn]
        simp only [List.mem_cons, List.not_mem_nil, or_false, not_or]
        exact ⟨Nat.ne_of_lt hb0, Nat.ne_of_lt (Nat.lt_succ_of_lt hb0)⟩
    · rcases r₂ with e | fl
      · exact hr₂
      cases fl with
      | ret u =>
        obtain ⟨rfl, hF⟩ := hr₂
        repeat (any_goals (first | assumption | wp_step))
        exact q _ hF
      | _ => exact hr₂.elim
  | _ => exact hr.elim
end
/-! ### as a thing of the hand layer -/
/-- the set at a, without its tuples -/
structure Bare (P : Program) (w : World) (h : Heap) (a : Addr) (L : List (Addr × TKey)) : Prop where
  ex : ∃ (es : Array (Int × Value)) (ep : Nat) (t : SetTable), (∃ o, h.get? a = some o ∧ o.ExactSet ∧ o.data = .set es ep t) ∧ es.toList = ents P w L ∧ TabOk t (hzs P w L) ∧ (L.map (·.2)).Nodup ∧ (w.params.followText "set-order" = true ∨ t.led = true) ∧ L.length * 5 < t.mask * 3 ∧ L.length < 64
def SetUO (P : Program) (w : World) (a : Addr) (L : List (Addr × TKey)) : HO := .ext fun h => Bare P w h a L
theorem Set.bare {P : Program} {w : World} {h : Heap} {a : Addr} {L : List (Addr × TKey)} {es : Array (Int × Value)} {ep : Nat} {t : SetTable} (S : Set P w h a L es ep t) : Bare P w h a L := ⟨es, ep, t, S.ob, S.en, S.tb, S.nd, S.ld, S.rm, S.fw⟩
theorem Bare.set {P : Program} {w : World} {h : Heap} {a : Addr} {L : List (Addr × TKey)} (B : Bare P w h a L) (ly : ∀ p, p ∈ L → Lies P w h p.2 p.1) : ∃ es ep t, Set P w h a L es ep t := by
  obtain ⟨es, ep, t, h1, h2, h3, h4, h5, h6, h7⟩ := B.ex
  exact ⟨es, ep, t, h1, h2, h3, h4, ly, h5, h6, h7⟩
theorem su_new {P : Program} {w : World} {H : Hp} {h : Heap} {a : Addr} {L : List (Addr × TKey)} (B : Bare P w h a L) : ObjOk P w H h a (SetUO P w a L) := by
  obtain ⟨es, ep, t, ⟨o, ho, r⟩, q⟩ := B.ex
  refine ⟨B, ⟨o, ho⟩, fun h1 h2 b k => ?_⟩
  obtain ⟨es', ep', t', ⟨o', ho', r'⟩, q'⟩ := Bare.ex b
  exact ⟨es', ep', t', ⟨o', k o' ho', r'⟩, q'⟩
theorem refs_vals : ∀ {ks : List (Addr × TKey)} {us : List Value}, Vals (ks.map fun p => V.ref p.1) us → us = ks.map fun p => Value.ref p.1
  | [], _, .nil => rfl
  | p :: ks, _, .cons r t => by
    cases r
    rw [refs_vals t, List.map_cons]
section
variable {X : Cx}
/-- set(xs), xs a list of tuples of texts and ints -/
def rSetU (P : Program) (w : World) (K : PySem.W.Frag) : List V → Hp → VK → Prop := fun xs H Q => ∃ (l : Addr) (ks : List (Addr × TKey)), xs = [V.ref l] ∧ SqL K H l (ks.map fun p => V.ref p.1) ∧ (∀ p, p ∈ ks → H p.1 = some (.tup (p.2.map kV))) ∧ Few ks ∧
  ∀ a L, H a = none → From ks ks.length L → (L.map (·.2)).Nodup → Q (.ref a) (upd H a (SetUO P w a L))
theorem cr_setU (hc : X.calm = true) (hu : X.A.units + 3 < cLine) : CallR X (.type "set") (rSetU X.prog X.w X.K) := by
  intro pins s σ H xs us Q I r h
  obtain ⟨l, ks, rfl, hl, hk, few, q⟩ := h
  rw [Vals.ref1 r]
  obtain ⟨its, rv, pl, sz⟩ := I.list hl
  refine call_set (ks := ks) (I.ok.hd hc) hu pl.isList (by simpa using refs_vals rv) (fun p hp => key_of I.hok (hk p hp)) few fun s₂ ⟨h', tk, L, es, ep, t, e, S, g, k⟩ => ?_
  subst e
  exact ⟨.ref s.heap.objs.size, upd H s.heap.objs.size (SetUO X.prog X.w s.heap.objs.size L), I.laid (t' := tk) k (Nat.le_refl _) (su_new S.bare), rfl, q _ L (I.hok.fresh (Nat.le_refl _)) g S.nd⟩
end
end UA

/-! Pairs of texts: their order, and sorted(..) of what gives them. -/
namespace UA
open PySem PySem.Spec PyProof.Rows L2
abbrev Pr := Str × Str
def slt (x y : Str) : Prop := x.cps.toList < y.cps.toList
instance (x y : Str) : Decidable (slt x y) := inferInstanceAs (Decidable (x.cps.toList < y.cps.toList))
theorem slt_irr (x : Str) : ¬ slt x x := List.lt_irrefl _
theorem slt_trans {x y z : Str} (a : slt x y) (b : slt y z) : slt x z := List.lt_trans a b
theorem slt_tri (x y : Str) : slt x y ∨ x = y ∨ slt y x := by
  by_cases a : slt x y
  · exact .inl a
  by_cases b : slt y x
  · exact .inr (.inr b)
  · refine .inr (.inl ?_)
    have e : x.cps.toList = y.cps.toList := List.le_antisymm (List.not_lt.mp b) (List.not_lt.mp a)
    cases x; cases y
    simp only at e
    rw [Array.toList_inj.mp e]
/-- pairs, the first item ahead of the second -/
def plt (p q : Pr) : Bool := decide (slt p.1 q.1 ∨ (p.1 = q.1 ∧ slt p.2 q.2))
theorem plt_irr (p : Pr) : plt p p = false := by
  refine decide_eq_false fun h => ?_
  rcases h with h | h
  · exact slt_irr _ h
  · exact slt_irr _ h.2
theorem plt_trans {p q r : Pr} (a : plt p q = true) (b : plt q r = true) : plt p r = true := by
  refine decide_eq_true ?_
  rcases of_decide_eq_true a with h | h <;> rcases of_decide_eq_true b with g | g
  · exact .inl (slt_trans h g)
  · exact .inl (g.1 ▸ h)
  · exact .inl (h.1 ▸ g)
  · exact .inr ⟨h.1.trans g.1, slt_trans h.2 g.2⟩
theorem plt_tri (p q : Pr) : plt p q = true ∨ p = q ∨ plt q p = true := by
  rcases slt_tri p.1 q.1 with h | h | h
  · exact .inl (decide_eq_true (.inl h))
  · rcases slt_tri p.2 q.2 with g | g | g
    · exact .inl (decide_eq_true (.inr ⟨h, g⟩))
    · exact .inr (.inl (Prod.ext h g))
    · exact .inr (.inr (decide_eq_true (.inr ⟨h.symm, g⟩)))
  · exact .inr (.inr (decide_eq_true (.inl h)))
/-- how many of D lie ahead -/
def rk (D : List Pr) (p : Pr) : Nat := (D.filter fun r => plt r p).length
theorem rk_le {p q : Pr} (h : ∀ r, plt r p = true → plt r q = true) : ∀ D : List Pr, rk D p ≤ rk D q
  | [] => Nat.le_refl _
  | r :: D => by
    have ih := rk_le h D
    unfold rk at ih ⊢
    by_cases a : plt r p = true
    · rw [List.filter_cons_of_pos (p := fun r => plt r p) a, List.filter_cons_of_pos (p := fun r => plt r q) (h r a)]
      exact Nat.succ_le_succ ih
    · rw [List.filter_cons_of_neg (p := fun r => plt r p) a]
      by_cases b : plt r q = true
      · rw [List.filter_cons_of_pos (p := fun r => plt r q) b]
        exact Nat.le_succ_of_le ih
      · rw [List.filter_cons_of_neg (p := fun r => plt r q) b]
        exact ih
theorem rk_lt {p q : Pr} (h : plt p q = true) : ∀ D : List Pr, p ∈ D → rk D p < rk D q
  | r :: D, m => by
    have le := rk_le (p := p) (q := q) (fun r a => plt_trans a h) D
    rcases List.mem_cons.mp m with rfl | m
    · unfold rk at le ⊢
      rw [List.filter_cons_of_neg (p := fun r => plt r p) (by simp only [plt_irr]; decide), List.filter_cons_of_pos (p := fun r => plt r q) h]
      exact Nat.lt_succ_of_le le
    · have ih := rk_lt h D m
      unfold rk at ih ⊢
      by_cases a : plt r p = true
      · rw [List.filter_cons_of_pos (p := fun r => plt r p) a, List.filter_cons_of_pos (p := fun r => plt r q) (plt_trans a h)]
        exact Nat.succ_lt_succ ih
      · rw [List.filter_cons_of_neg (p := fun r => plt r p) a]
        by_cases b : plt r q = true
        · rw [List.filter_cons_of_pos (p := fun r => plt r q) b]
          exact Nat.lt_succ_of_lt ih
        · rw [List.filter_cons_of_neg (p := fun r => plt r q) b]
          exact ih
theorem rk_plt {D : List Pr} {p q : Pr} (hp : p ∈ D) (hq : q ∈ D) : decide ((rk D p : Int) < rk D q) = plt p q := by
  rcases plt_tri p q with h | h | h
  · rw [h]
    exact decide_eq_true (Int.ofNat_lt.mpr (rk_lt h D hp))
  · subst h
    rw [plt_irr]
    exact decide_eq_false (Int.lt_irrefl _)
  · have z := rk_lt h D hq
    have n : plt p q = false := by
      cases e : plt p q with
      | false => rfl
      | true => exact absurd (plt_trans e h) (by rw [plt_irr]; decide)
    rw [n]
    exact decide_eq_false (by omega)
/-- ascending, each once: there is one such order -/
def Up (l : List Pr) : Prop := l.Pairwise fun p q => plt p q = true
theorem up_one : ∀ {l m : List Pr}, Up l → Up m → (∀ p, p ∈ l ↔ p ∈ m) → l = m
  | [], [], _, _, _ => rfl
  | [], q :: m, _, _, h => nomatch (h q).mpr List.mem_cons_self
  | p :: l, [], _, _, h => nomatch (h p).mp List.mem_cons_self
  | p :: l, q :: m, a, b, h => by
    have a' := List.pairwise_cons.mp a
    have b' := List.pairwise_cons.mp b
    have e : p = q := by
      rcases List.mem_cons.mp ((h p).mp List.mem_cons_self) with e | e
      · exact e
      rcases List.mem_cons.mp ((h q).mpr List.mem_cons_self) with g | g
      · exact g.symm
      have z := plt_trans (a'.1 q g) (b'.1 p e)
      rw [plt_irr] at z
      cases z
    subst e
    refine congrArg (p :: ·) (up_one a'.2 b'.2 fun r => ⟨fun hr => ?_, fun hr => ?_⟩)
    · rcases List.mem_cons.mp ((h r).mp (List.mem_cons_of_mem _ hr)) with e | e
      · have z := a'.1 r hr
        rw [e, plt_irr] at z
        cases z
      · exact e
    · rcases List.mem_cons.mp ((h r).mpr (List.mem_cons_of_mem _ hr)) with e | e
      · have z := b'.1 r hr
        rw [e, plt_irr] at z
        cases z
      · exact e
theorem up_of {l : List Pr} (h : l.Pairwise fun p q => plt q p = false) (nd : l.Nodup) : Up l := by
  refine (h.and nd).imp fun {p q} z => ?_
  rcases plt_tri p q with e | e | e
  · exact e
  · exact absurd e z.2
  · rw [z.1] at e
    cases e

theorem rising_far : ∀ (l : List Str) (p : Str), risingS p l = true → (p :: l).Pairwise fun a b => ¬ slt b a
  | [], p, _ => List.pairwise_singleton _ _
  | x :: l, p, h => by
    rw [risingS, Bool.and_eq_true] at h
    have ih := rising_far l x h.2
    have hx : ¬ slt x p := by
      have z := h.1
      rw [ltCps_eq] at z
      intro c
      rw [decide_eq_true (show x.cps.toList < p.cps.toList from c)] at z
      cases z
    refine List.pairwise_cons.mpr ⟨fun b hb => ?_, ih⟩
    rcases List.mem_cons.mp hb with rfl | hb
    · exact hx
    · intro c
      have g := (List.pairwise_cons.mp ih).1 b hb
      rcases slt_tri b x with e | e | e
      · exact g e
      · exact hx (e ▸ c)
      · exact hx (slt_trans e c)
theorem sorted_far : ∀ {l : List Str}, sortedS l = true → l.Pairwise fun a b => ¬ slt b a
  | [], _ => .nil
  | x :: l, h => rising_far l x h
theorem texts_one : ∀ {l m : List Str}, (l.Pairwise fun a b => ¬ slt b a) → (m.Pairwise fun a b => ¬ slt b a) → l.Nodup → m.Nodup → (∀ p, p ∈ l ↔ p ∈ m) → l = m
  | [], [], _, _, _, _, _ => rfl
  | [], q :: m, _, _, _, _, h => nomatch (h q).mpr List.mem_cons_self
  | p :: l, [], _, _, _, _, h => nomatch (h p).mp List.mem_cons_self
  | p :: l, q :: m, a, b, na, nb, h => by
    have a' := List.pairwise_cons.mp a
    have b' := List.pairwise_cons.mp b
    have na' := List.nodup_cons.mp na
    have nb' := List.nodup_cons.mp nb
    have e : p = q := by
      rcases List.mem_cons.mp ((h p).mp List.mem_cons_self) with e | e
      · exact e
      rcases List.mem_cons.mp ((h q).mpr List.mem_cons_self) with g | g
      · exact g.symm
      rcases slt_tri p q with z | z | z
      · exact absurd z (b'.1 p e)
      · exact z
      · exact absurd z (a'.1 q g)
    subst e
    refine congrArg (p :: ·) (texts_one a'.2 b'.2 na'.2 nb'.2 fun r => ⟨fun hr => ?_, fun hr => ?_⟩)
    · rcases List.mem_cons.mp ((h r).mp (List.mem_cons_of_mem _ hr)) with e | e
      · exact absurd (e ▸ hr) na'.1
      · exact e
    · rcases List.mem_cons.mp ((h r).mpr (List.mem_cons_of_mem _ hr)) with e | e
      · exact absurd (e ▸ hr) nb'.1
      · exact e
theorem sorted_one {l m : List Str} (a : sortedS l = true) (b : sortedS m = true) (na : l.Nodup) (nb : m.Nodup) (h : ∀ p, p ∈ l ↔ p ∈ m) : l = m := texts_one (sorted_far a) (sorted_far b) na nb h
/-! ### pairs in the heap -/
/-- a pair's items -/
def pk (p : Pr) : TKey := [.inr p.1, .inr p.2]
theorem pk_inj {p q : Pr} (e : pk p = pk q) : p = q := by
  injection e with e1 e2
  injection e2 with e2 _
  exact Prod.ext (Sum.inr.inj e1) (Sum.inr.inj e2)
theorem text_of {x : Str} {v : Value} (h : keyIs (.inr x) v = true) : ∃ t, v = .str x t := by
  rcases keyIs_shape h with ⟨i, t, e, _⟩ | ⟨y, t, e, f⟩
  · cases e
  · cases e
    exact ⟨t, f⟩
theorem pk_items {P : Program} {w : World} {h : Heap} {p : Pr} {a : Addr} (l : Lies P w h (pk p) a) : ∃ (o : Obj) (t u : Tok) (n : Nat), h.get? a = some o ∧ o.cls = .type "tuple" ∧ o.data = .seq #[.str p.1 t, .str p.2 u] n := by
  obtain ⟨o, its, n, ho, hc, hd, hi⟩ := l
  obtain ⟨xs⟩ := its
  cases hi with
  | cons h1 r =>
    cases r with
    | cons h2 r2 =>
      cases r2
      obtain ⟨t, rfl⟩ := text_of h1
      obtain ⟨u, rfl⟩ := text_of h2
      exact ⟨o, t, u, n, ho, hc, hd⟩
abbrev PL := List (Addr × Pr)
abbrev refsP (ps : PL) : List Value := ps.map fun p => Value.ref p.1
def LiesP (P : Program) (w : World) (h : Heap) (ps : PL) : Prop := ∀ p, p ∈ ps → Lies P w h (pk p.2) p.1
/-- how far along the value stands among ps -/
def rkV (ps : PL) : Value → Int
  | .ref a => match ps.find? fun q => q.1 == a with
    | some q => rk (ps.map (·.2)) q.2
    | none => 0
  | _ => 0
theorem rkV_at {P : Program} {w : World} {h : Heap} {ps : PL} (ly : LiesP P w h ps) {p : Addr × Pr} (hp : p ∈ ps) : rkV ps (.ref p.1) = rk (ps.map (·.2)) p.2 := by
  unfold rkV
  dsimp only
  cases e : ps.find? fun q => q.1 == p.1 with
  | none => exact absurd (List.find?_eq_none.mp e p hp) (by simp)
  | some q =>
    have q1 := List.mem_of_find?_eq_some e
    have q2 : q.1 = p.1 := by simpa using List.find?_some e
    have z : pk q.2 = pk p.2 := IsTupleKey.inj (q2 ▸ ly q q1) (ly p hp)
    dsimp only
    rw [pk_inj z]
section
variable {P : Program} {w : World} {A : Around} {E : Value → Shared → Prop} {s : Shared}
theorem zip_self (f : Value → Value) : ∀ ps : PL, ps.map (fun p => (Value.ref p.1, Value.ref p.1)) = (refsP ps).zip (refsP ps)
  | [] => rfl
  | p :: ps => congrArg ((Value.ref p.1, Value.ref p.1) :: ·) (zip_self f ps)
theorem fronts {h : Heap} : ∀ ps : PL, LiesP P w h ps → ∃ fs : List Value, PySem.W.KatTups h (refsP ps) fs ∧ fs.length = ps.length ∧ ∀ f, f ∈ fs → ∃ x t, f = Value.str x t
  | [], _ => ⟨[], PySem.W.KatTups.nil, rfl, fun f hf => nomatch hf⟩
  | p :: ps, ly => by
    obtain ⟨fs, k, hl, hi⟩ := fronts ps fun q hq => ly q (List.mem_cons_of_mem _ hq)
    obtain ⟨o, t, u, n, ho, hc, hd⟩ := pk_items (ly p List.mem_cons_self)
    refine ⟨.str p.2.1 t :: fs, PySem.W.KatTups.cons ho hc hd rfl k, congrArg (· + 1) hl, fun f hf => ?_⟩
    rcases List.mem_cons.mp hf with rfl | hf
    · exact ⟨_, _, rfl⟩
    · exact hi f hf
theorem kind_pairs {ps : PL} (h2 : 2 ≤ ps.length) (ly : LiesP P w s.heap ps) (Q : SortKind → Shared → Prop) (h : ∀ κ, TS.Cmp P w A s κ (pairsOf (refsP ps)) (rkV ps) → Q κ s) : wpAny (model P w) A (keyKind' (refsP ps).toArray) Q E s := by
  obtain ⟨fs, k, hl, hi⟩ := fronts ps ly
  refine PySem.W.kat_kind (T := Value.type "str") k (by omega) (fun f hf => ?_) (by decide) (h _ ?_)
  · obtain ⟨x, t, rfl⟩ := hi f hf
    exact .now
  · have hb : (Value.type "str" != Value.type "tuple") = true := by decide
    rw [hb]
    intro p q hp hq Q' E' hQ
    rw [pairsOf_toList] at hp hq
    obtain ⟨x, mx, ex⟩ := List.mem_map.mp (mem_zip_self hp).2
    obtain ⟨y, my, ey⟩ := List.mem_map.mp (mem_zip_self hq).2
    rw [← ex, ← ey] at hQ ⊢
    rw [rkV_at ly mx, rkV_at ly my, rk_plt (List.mem_map.mpr ⟨x, mx, rfl⟩) (List.mem_map.mpr ⟨y, my, rfl⟩)] at hQ
    obtain ⟨o, t, u, n, ho, hc, hd⟩ := pk_items (ly x mx)
    obtain ⟨o', t', u', n', ho', hc', hd'⟩ := pk_items (ly y my)
    refine PySem.W.kat_lt ho hd ho' hd' ?_
    show PySem.W.KatLex P w A true false Q' [(Value.str x.2.1 t, Value.str y.2.1 t'), (Value.str x.2.2 u, Value.str y.2.2 u')] 0 s
    refine PySem.W.kat_cons (wpAny_eqBool_str (PySem.W.kat_go (fun e => ?_) fun e => ?_))
    · have e1 := of_decide_eq_true e
      have z : plt x.2 y.2 = decide (slt x.2.2 y.2.2) := by
        refine decide_eq_decide.mpr ⟨fun g => ?_, fun g => .inr ⟨e1, g⟩⟩
        rcases g with g | g
        · rw [e1] at g
          exact absurd g (slt_irr _)
        · exact g.2
      rw [z] at hQ
      refine PySem.W.kat_yes (PySem.W.kat_cons (wpAny_eqBool_str (PySem.W.kat_go (fun e' => ?_) fun e' => ?_)))
      · rw [of_decide_eq_true e', decide_eq_false (slt_irr _)] at hQ
        exact PySem.W.kat_yes (PySem.W.kat_nil hQ)
      · refine PySem.W.kat_no ?_
        show wpAny _ _ (oneLt' false _ _) _ _ _
        exact PySem.W.kat_one _ _ (PyProof.Rows.lt_str hQ)
    · have e1 := of_decide_eq_false e
      have z : plt x.2 y.2 = decide (slt x.2.1 y.2.1) := decide_eq_decide.mpr ⟨fun g => g.elim id fun g => absurd g.1 e1, .inl⟩
      rw [z] at hQ
      refine PySem.W.kat_no ?_
      show wpAny _ _ (oneLt' true _ _) _ _ _
      exact oneLt_str hQ
/-- sorted(r), where what r gives are pairs -/
theorem sorted_of {r : Value} {Gd : PL → Prop} {Q : Value → Shared → Prop} (small : ∀ ps, Gd ps → ps.length < 64) (ly : ∀ ps, Gd ps → LiesP P w s.heap ps)
    (col : ∀ R : List Value → Shared → Prop, (∀ (s' : Shared) (ps : PL), (∀ b o, s.heap.get? b = some o → s'.heap.get? b = some o) → s.heap.objs.size ≤ s'.heap.objs.size → s'.gens = s.gens → s'.os = s.os → Gd ps → R (refsP ps) s') → wpAny (model P w) A.in1 (collect r) R E s)
    (q : ∀ (ps qs : PL) (s' : Shared) (D : Addr) (ep : Nat), Gd ps → qs.Perm ps → (qs.Pairwise fun p q => plt q.2 p.2 = false) → (∀ b o, s.heap.get? b = some o → s'.heap.get? b = some o) → s'.gens = s.gens → s'.os = s.os → s.heap.objs.size ≤ D →
      s'.heap.get? D = some (seqObj "list" (refsP qs).toArray ep) → Q (.ref D) s') : wpAny (model P w) A (call (.builtin "sorted") [r]) Q E s := by
  apply PySem.Calls.call_function_entry PyProof.Rows.kind_sorted PyProof.Rows.plain_sorted
  · exact PyProof.Rows.entry_sorted
  · exact PyProof.Rows.args_sorted1 _
  unfold Builtin.«sorted»
  apply wpAny_bind
  show wpAny _ _ (checkCount "sorted" 1 1 _) _ _ _
  apply wpAny_pure
  apply wpAny_bind
  refine col _ fun s1 ps keep le g1 g2 g => ?_
  have h64 := small ps g
  have hlen : (refsP ps).length = ps.length := List.length_map _
  apply wpAny_bind
  refine wpAny_newList ?_ (by rw [hlen, sizeLine_eq]; omega)
  have hob : (s1.heap.push { cls := .type "list", data := .seq (refsP ps).toArray }).get? s1.heap.objs.size = some (seqObj "list" (refsP ps).toArray 0) := Heap.get?_push_size _ rfl
  have old : ∀ b o, s.heap.get? b = some o → b ≠ s1.heap.objs.size ∧ (s1.heap.push { cls := .type "list", data := .seq (refsP ps).toArray }).get? b = some o := fun b o e => ⟨Nat.ne_of_lt (Heap.lt_size (keep b o e)), Heap.get?_push_of_some _ (keep b o e)⟩
  generalize s1.heap.push { cls := .type "list", data := .seq (refsP ps).toArray } = h2 at hob old ⊢
  have lyM : LiesP P w (TS.midHeap h2 s1.heap.objs.size (refsP ps)) ps := fun p hp => by
    obtain ⟨o, its, n, ho, rest⟩ := ly ps g p hp
    exact ⟨o, its, n, TS.midHeap_old (old _ _ ho).1 (old _ _ ho).2, rest⟩
  apply wpAny_bind
  apply wpAny_holding
  refine wpAny_mono (Q := fun _ s' => Q (.ref s1.heap.objs.size) s') (E := E) ?_ (fun _ s' x => wpAny_pure ⟨_, rfl, x⟩) fun _ _ e => e
  refine wpAny_call_entry PyProof.Rows.slot_list_sort ⟨_, hob, rfl⟩ PyProof.Rows.entry_list_sort (SK.plain_sort (s := { s1 with heap := h2 }) (r := rkV ps) hob (by rw [hlen]; exact h64) (fun two Qk hk => ?_) fun us out o1 o2 o3 => ⟨.none, rfl, ?_⟩) (PyProof.Rows.args_list_sort _)
  · exact kind_pairs (s := { s1 with heap := TS.midHeap h2 s1.heap.objs.size (refsP ps) }) (by rw [← hlen]; exact two) lyM Qk hk
  · obtain ⟨qs, pm, eq⟩ := perm_lift (fun p : Addr × Pr => (Value.ref p.1, Value.ref p.1)) o2 ps (zip_self (fun v : Value => v) ps)
    have e1 : out.toList = refsP qs := by
      rw [o1, ← eq, List.map_map]
      rfl
    obtain ⟨ep, he⟩ := PyProof.Rows.sortedHeap_at (vs := refsP ps) (out := out) hob
    refine q ps qs _ s1.heap.objs.size ep g pm ?_ (fun b o e => (PyProof.Rows.sortedHeap_old (old b o e).1 (Heap.lt_size (old b o e).2)).trans (old b o e).2) g1 g2 le (by rw [← e1, Array.toArray_toList]; exact he)
    rw [← eq, List.pairwise_map] at o3
    refine o3.imp_of_mem fun {a b} ha hb z => ?_
    have ma := pm.mem_iff.mp ha
    have mb := pm.mem_iff.mp hb
    dsimp only at z
    rw [rkV_at lyM ma, rkV_at lyM mb] at z
    rw [← rk_plt (D := ps.map (·.2)) (List.mem_map.mpr ⟨b, mb, rfl⟩) (List.mem_map.mpr ⟨a, ma, rfl⟩)]
    exact decide_eq_false (by omega)
end
end UA

/-! sorted(a set of pairs of texts), sorted(a dict keyed by such), as rules. -/
namespace UA
open PySem PySem.Spec PyProof.Rows L2
theorem lies_pair {P : Program} {w : World} {H : Hp} {h : Heap} (ok : HOk P w H h) {b : Addr} {p : Pr} (e : H b = some (.tup [.str p.1, .str p.2])) : Lies P w h (pk p) b := key_of (ks := pk p) ok e
theorem nodup_un {ds : List Pr} (h : (ds.map pk).Nodup) : ds.Nodup := (List.pairwise_map.mp h).imp fun ne e => ne (congrArg pk e)
theorem vals_of_refs (ps : PL) : Vals (ps.map fun p => V.ref p.1) (refsP ps) := vals_maps (fun p : Addr × Pr => V.ref p.1) (fun p => Value.ref p.1) ps fun _ _ => rfl
section
variable {prog : Program} {w : World} {A : Around} {E : Value → Shared → Prop} {s : Shared} {T : String} {r d : Addr} {n : Nat} {P : Nat → Value → Prop} {OK : Heap → Prop}
theorem collect_dict {R : List Value → Shared → Prop} (K : PySem.W.KdlSrc prog w T r d n P OK) (hh : A.handled = none) (hok : OK s.heap) (hn : n ≤ sizeLine)
    (h : ∀ (h' : Heap) (tk : Nat) (acc : Array Value), (∀ b o, s.heap.get? b = some o → h'.get? b = some o) → s.heap.objs.size ≤ h'.objs.size → ItemsOf P acc n → R acc.toList { s with heap := h', toks := tk }) : wpAny (model prog w) A (collect (.ref r)) R E s := by
  have lt := K.there _ hok
  unfold collect
  apply wpAny_bind
  refine wpAny_runValue (codeAny_builtin PyProof.Rows.entry_proto_collect' ?_)
  (rw [Around.under_plainId PySem.F.plain_proto_collect _])
  show wpAny (model prog w) A.in1 (newList [] >>= fun l => again (.builtin "list.__iadd__" ⟨[l, .ref r], []⟩)) _ _ s
  apply wpAny_bind
  refine wpAny_newObj_type (wpAny_pure ⟨plainId_quiet PySem.F.plain_list_iadd _, codeAny_builtin PyProof.Rows.entry_list_iadd' ?_⟩)
  (rw [Around.under_plainId PySem.F.plain_list_iadd _])
  have at_ : (s.heap.push { cls := .type "list", data := .seq ([] : List Value).toArray }).get? s.heap.objs.size = some { cls := .type "list", data := .seq #[] } := Heap.get?_push_size _ rfl
  show wpAny (model prog w) A.in1 (Builtin.List.listExtendWith (.ref s.heap.objs.size) (.ref r) (.ref s.heap.objs.size)) _ _ _
  have key := PySem.W.kdl_extend (A := A) (s := { s with heap := s.heap.push { cls := .type "list", data := .seq ([] : List Value).toArray } })
    (R := fun (q : Result) (s' : Shared) => ∃ (h' : Heap) (tk : Nat) (acc : Array Value) (c : Nat), q = .ok (.ret (.ref s.heap.objs.size)) ∧ s' = { s with heap := h', toks := tk } ∧
      (∀ b o, s.heap.get? b = some o → h'.get? b = some o) ∧ h'.get? s.heap.objs.size = some { cls := .type "list", dict := none, data := .seq acc c, slots := #[] } ∧ ItemsOf P acc n)
    K hh (K.keep _ _ hok fun b _ o e => Heap.get?_push_of_some _ e) s.heap.objs.size (Nat.ne_of_gt lt.1) (Nat.ne_of_gt lt.2) (.ref s.heap.objs.size) 0 at_
    (fun h' tk acc c hk hS it => ⟨h', tk, acc, c, rfl, rfl, fun b o e => hk b o (Nat.ne_of_lt (Heap.lt_size e)) (Heap.get?_push_of_some _ e), hS, it⟩) hn
  have fin : ∀ (h' : Heap) (tk : Nat) (acc : Array Value) (c : Nat), (∀ b o, s.heap.get? b = some o → h'.get? b = some o) → h'.get? s.heap.objs.size = some { cls := .type "list", dict := none, data := .seq acc c, slots := #[] } → ItemsOf P acc n →
      wpAny (model prog w) A (load s.heap.objs.size >>= fun o => match o.data with
        | .seq xs _ => pure xs.toList
        | _ => unsupported "internal:collect") R E { s with heap := h', toks := tk } := fun h' tk acc c hk hS it => by
    apply wpAny_bind
    exact wpAny_load hS (wpAny_pure (h h' tk acc hk (Nat.le_of_lt (Heap.lt_size hS)) it))
  refine wpAny_mono key (fun f s' x => ?_) fun e s' x => ?_
  · cases f with
    | done g =>
      obtain ⟨h', tk, acc, c, e, rfl, hk, hS, it⟩ := x
      cases e
      exact fin h' tk acc c hk hS it
    | again c₁ =>
      refine ⟨x.1, codeAny_mono x.2 fun g s₂ y => ?_⟩
      obtain ⟨h', tk, acc, c, rfl, rfl, hk, hS, it⟩ := y
      exact fin h' tk acc c hk hS it
  · obtain ⟨_, _, _, _, e', _⟩ := x
    cases e'
end
section
variable {X : Cx}
/-- the list that sorted makes, laid -/
theorem lay_sorted {pins : List (Addr × Obj)} {σ : L2.St} {H : Hp} {s s' : Shared} {D : Addr} {ep : Nat} {qs : PL} (I : Inv X pins σ H s) (few : qs.length < 64) (k : ∀ b o, s.heap.get? b = some o → s'.heap.get? b = some o) (g : s'.gens = s.gens) (os : s'.os = s.os)
    (le : s.heap.objs.size ≤ D) (he : s'.heap.get? D = some (seqObj "list" (refsP qs).toArray ep)) : H D = none ∧ Inv X pins σ (upd H D (.lst (qs.map fun p => V.ref p.1))) s' := by
  have hn : H D = none := I.hok.fresh le
  have hlen : (qs.map fun p => V.ref p.1).length ≤ sizeLine := by rw [List.length_map, sizeLine_eq]; omega
  have J : Inv X pins σ (upd H D (.lst (qs.map fun p => V.ref p.1))) { s with heap := s'.heap, gens := s'.gens, drawn := s'.drawn, toks := s'.toks } :=
    I.call (ch := []) (Un.laid k le hn) (I.hok.laid k le ⟨hlen, refsP qs, ep, vals_of_refs qs, he⟩) (by rw [g]; exact I.bare) fun _ z => nomatch z
  have e : s' = { s with heap := s'.heap, gens := s'.gens, drawn := s'.drawn, toks := s'.toks } := by
    cases s'
    cases s
    cases os
    rfl
  rw [e]
  exact ⟨hn, J⟩
/-- sorted(a set of pairs) -/
def rSortU (P : Program) (w : World) : List V → Hp → VK → Prop := fun vs H Q => ∃ (a : Addr) (L : List (Addr × TKey)) (ps : PL), vs = [.ref a] ∧ H a = some (SetUO P w a L) ∧ L = ps.map (fun p => (p.1, pk p.2)) ∧ (∀ p, p ∈ ps → H p.1 = some (.tup [.str p.2.1, .str p.2.2])) ∧
  ∀ (qs : PL) (l : Addr), H l = none → qs.Perm ps → Up (qs.map (·.2)) → Q (.ref l) (upd H l (.lst (qs.map fun p => V.ref p.1)))
theorem up_sorted {ps qs : PL} (pm : qs.Perm ps) (so : qs.Pairwise fun p q => plt q.2 p.2 = false) (nd : (ps.map (·.2)).Nodup) : Up (qs.map (·.2)) :=
  up_of (List.pairwise_map.mpr so) ((pm.map (·.2)).nodup_iff.mpr nd)
theorem cr_sortU (hc : X.calm = true) : CallR X (.builtin "sorted") (rSortU X.prog X.w) := by
  intro pins s σ H vs us Q I r h
  obtain ⟨a, L, ps, rfl, ha, rfl, hp, q⟩ := h
  rw [Vals.ref1 r]
  have B : Bare X.prog X.w s.heap a (ps.map fun p => (p.1, pk p.2)) := (I.hok a _ ha).1
  obtain ⟨es, ep, t, S⟩ := B.set fun p hp' => by
    obtain ⟨p0, h0, rfl⟩ := List.mem_map.mp hp'
    exact lies_pair I.hok (hp p0 h0)
  have nd : (ps.map (·.2)).Nodup := by
    have z := S.nd
    rw [List.map_map] at z
    have y : ((ps.map (·.2)).map pk).Nodup := by rwa [List.map_map]
    exact nodup_un y
  have n64 : ps.length < 64 := by
    have z := S.fw
    rwa [List.length_map] at z
  obtain ⟨o, ho, ex, hd⟩ := S.ob
  refine sorted_of (Gd := fun l => l.Perm ps) (fun l pm => by rw [pm.length_eq]; exact n64) (fun l pm p hp' => lies_pair I.hok (hp p (pm.mem_iff.mp hp'))) (fun R hR => ?_) fun l qs s' D ep' pm pm2 so k g os le he => ?_
  · refine collect_set (A := X.A.in1) (by simp [I.ok.hd hc]) ⟨o, ho, ex.1, hd⟩ S.fit (by rw [S.sz, List.length_map]; unfold scanBound; omega) S.tb.ris S.ld fun s' out k le g os pm => ?_
    have e : es.toList.map (·.2) = ps.map fun p => Value.ref p.1 := by
      rw [S.en, ents, List.map_map, List.map_map]
      rfl
    rw [e] at pm
    obtain ⟨l, pl, el⟩ := perm_lift (fun p : Addr × Pr => Value.ref p.1) pm ps rfl
    rw [← el]
    exact hR s' l k le g os pl
  · have pq := pm2.trans pm
    obtain ⟨hn, J⟩ := lay_sorted (qs := qs) I (by rw [pq.length_eq]; exact n64) k g os le he
    exact ⟨.ref D, _, J, rfl, q qs D hn pq (up_sorted pq so nd)⟩
/-- sorted(a dict keyed by pairs) -/
def rSortD (K : PySem.W.Frag) : List V → Hp → VK → Prop := fun vs H Q => ∃ (a : Addr) (kvs : List (List Key × V)) (ds : List Pr), vs = [.ref a] ∧ H a = some (.dT kvs) ∧ kvs.map (·.1) = ds.map pk ∧ ds.length < 64 ∧
  ∀ (qs : PL) (l : Addr), H l = none → (∀ p, p ∈ qs → H p.1 = some (.tup [.str p.2.1, .str p.2.2])) → (qs.map (·.2)).Perm ds → Up (qs.map (·.2)) → Q (.ref l) (upd H l (.lst (qs.map fun p => V.ref p.1)))
theorem keys_at {H : Hp} : ∀ {kvs : List (List Key × V)} {xs : List (List Key × Addr × Value)} {ds : List Pr}, KT H kvs xs → kvs.map (·.1) = ds.map pk → ∃ ps : PL, ps.map (·.2) = ds ∧ (xs.map fun x => x.2.1) = ps.map (·.1) ∧ (xs.map fun x => x.1) = ds.map pk ∧ ∀ p, p ∈ ps → H p.1 = some (.tup [.str p.2.1, .str p.2.2])
  | _, _, [], .nil, _ => ⟨[], rfl, rfl, rfl, fun p hp => nomatch hp⟩
  | _, _, _ :: _, .nil, e => nomatch e
  | _, _, [], .cons _ _, e => nomatch e
  | _, _, d :: ds, .cons (a := kv) (b := x) h t, e => by
    rw [List.map_cons, List.map_cons] at e
    injection e with e1 e2
    obtain ⟨ps, h1, h2, h3, h4⟩ := keys_at t e2
    have hd := h.2.1
    rw [e1] at hd
    refine ⟨(x.2.1, d) :: ps, congrArg (d :: ·) h1, congrArg (x.2.1 :: ·) h2, ?_, fun p hp => ?_⟩
    · rw [List.map_cons, List.map_cons, h3, ← h.1, e1]
    · rcases List.mem_cons.mp hp with rfl | hp
      · exact hd
      · exact h4 p hp
theorem cr_sortD (hc : X.calm = true) : CallR X (.builtin "sorted") (rSortD X.K) := by
  intro pins s σ H vs us Q I r h
  obtain ⟨a, kvs, ds, rfl, ha, hk, n64, q⟩ := h
  rw [Vals.ref1 r]
  obtain ⟨z, lo, xs, rel, o, es, ep, ho, hx, hd, hes, his, hn⟩ := dt_of I.hok ha
  obtain ⟨ps, p1, p2, p3, p4⟩ := keys_at rel hk
  have ln : es.size = ps.length := by
    rw [size_of_entries hes, ← List.length_map (f := fun x : List Key × Addr × Value => x.2.1), p2, List.length_map]
  have l2 : ps.length = ds.length := by rw [← p1, List.length_map]
  have nd : (ps.map (·.2)).Nodup := by
    rw [p1]
    have y : (ds.map pk).Nodup := by
      rw [← p3]
      exact hn
    exact nodup_un y
  refine sorted_of (Gd := fun l => l = ps) (fun l e => by rw [e, l2]; exact n64) (fun l e p hp => lies_pair I.hok (p4 p (e ▸ hp))) (fun R hR => ?_) fun l qs s' D ep' e pm so k g os le he => ?_
  · refine collect_dict (A := X.A.in1) (kdl_raw lo hx hd) (by simp [I.ok.hd hc]) ho (by rw [sizeLine_eq]; omega) fun h' tk acc k le it => ?_
    have ea : acc.toList = refsP ps := by
      have hl : acc.toList.length = ps.length := by rw [Array.length_toList, it.1]; exact ln
      apply List.ext_getElem?
      intro j
      rw [refsP, List.getElem?_map]
      cases hj : acc.toList[j]? with
      | none =>
        have h1 := List.getElem?_eq_none_iff.mp hj
        rw [List.getElem?_eq_none (by omega)]
        rfl
      | some v =>
        obtain ⟨en, hen, hv⟩ := it.2 j v (by rw [← Array.getElem?_toList]; exact hj)
        have qe := entry_at hes j
        rw [hen] at qe
        have px : (xs.map fun x => x.2.1)[j]? = (ps.map (·.1))[j]? := by rw [p2]
        rw [List.getElem?_map, List.getElem?_map] at px
        cases hb : xs[j]? with
        | none =>
          rw [hb] at qe
          exact nomatch (show some en = none from qe)
        | some b =>
          rw [hb] at qe px
          have e2 : en = entryOfKey (tupleKind (mixKind X.prog X.w)) b := Option.some.inj qe
          cases hp : ps[j]? with
          | none =>
            rw [hp] at px
            cases px
          | some p =>
            rw [hp] at px
            have e3 : b.2.1 = p.1 := Option.some.inj px
            rw [hv, e2]
            show some (Value.ref b.2.1) = some (Value.ref p.1)
            rw [e3]
    rw [ea]
    exact hR _ ps k le rfl rfl rfl
  · subst e
    obtain ⟨hn2, J⟩ := lay_sorted (qs := qs) I (by rw [pm.length_eq, l2]; exact n64) k g os le he
    refine ⟨.ref D, _, J, rfl, q qs D hn2 (fun p hp => p4 p (pm.mem_iff.mp hp)) ?_ (up_sorted pm so nd)⟩
    rw [← p1]
    exact pm.map (·.2)
end
end UA

namespace K5
open PySem PySem.Spec PyProof.Rows L2 GR WX TX UA
/-- the column that a part names -/
def colOf : PyData → Option Pr
  | .tuple [.str w, .str t, _, .str v] => if w = "cell" then some (t, v) else none
  | .tuple (.str w :: .str t :: _ :: _ :: _) => if w ∈ aggW then some (t, ("in" : Str)) else none
  | _ => none
def cols (l : List PyData) : List Pr := l.filterMap colOf
theorem col_cell {t v : Str} {x : PyData} : colOf (.tuple [.str "cell", .str t, x, .str v]) = some (t, v) := by
  unfold colOf
  simp
theorem Ex.cell_of {zs : List Str} {n : Nat} {rest : List PyData} (h : Ex zs n (.tuple (.str "cell" :: rest))) : ∃ m t v x, n = m + 1 ∧ t ∈ zs ∧ v ∈ zs ∧ rest = [.str t, x, .str v] ∧ Ex zs m x := by
  generalize hx : PyData.tuple (.str "cell" :: rest) = x at h
  cases h with
  | leaf n x h => cases h <;> cases hx
  | cell n t v x h1 h2 h3 =>
    cases hx
    exact ⟨n, t, v, x, rfl, h1, h2, rfl, h3⟩
  | op n o x y h1 h2 h3 =>
    cases hx
    exact absurd h1 (by decide)
  | iff n x y z h1 h2 h3 => cases hx
  | agg n o t xs ys h1 h2 h3 h4 h5 =>
    cases hx
    simp only [aggs, List.mem_cons, List.not_mem_nil, or_false, Prod.mk.injEq] at h1
    rcases h1 with ⟨h, _⟩ | ⟨h, _⟩ | ⟨h, _⟩ | ⟨h, _⟩ <;> exact absurd h (by decide)
theorem aggs_w {o : Str} {n : Nat} (h : (o, n) ∈ aggs) : o ∈ aggW ∧ 2 ≤ n := by
  simp only [aggs, List.mem_cons, List.not_mem_nil, or_false, Prod.mk.injEq] at h
  rcases h with ⟨rfl, rfl⟩ | ⟨rfl, rfl⟩ | ⟨rfl, rfl⟩ | ⟨rfl, rfl⟩ <;> exact ⟨by decide, by decide⟩
theorem agg_ne {o : Str} (h : o ∈ aggW) : o ≠ "cell" := fun e => absurd (e ▸ h) (by decide)
/-- an aggregate, by its word -/
theorem Ex.agg_of {zs : List Str} {n : Nat} {o : Str} {rest : List PyData} (h : Ex zs n (.tuple (.str o :: rest))) (ho : o ∈ aggW) : ∃ m t xs y ys, n = m + 1 ∧ rest = .str t :: .tuple xs :: y :: ys ∧ t ∈ zs ∧ (o, ys.length + 1) ∈ aggs ∧ xs.length ≤ 2 ∧ (∀ x, x ∈ xs → Ex zs m x) ∧ Ex zs m y ∧ ∀ z, z ∈ ys → Ex zs m z := by
  generalize hx : PyData.tuple (.str o :: rest) = x at h
  cases h with
  | leaf n x h => cases h <;> cases hx <;> exact absurd ho (by decide)
  | cell n t v x h1 h2 h3 =>
    cases hx
    exact absurd ho (by decide)
  | op n o' x y h1 h2 h3 =>
    cases hx
    simp only [opws, List.mem_cons, List.not_mem_nil, or_false] at h1
    rcases h1 with rfl | rfl | rfl | rfl | rfl | rfl <;> exact absurd ho (by decide)
  | iff n x y z h1 h2 h3 =>
    cases hx
    exact absurd ho (by decide)
  | agg n o' t xs ys h1 h2 h3 h4 h5 =>
    cases hx
    have := (aggs_w h1).2
    match ys, h1, h5, this with
    | y :: ys, h1, h5, _ => exact ⟨n, t, xs, y, ys, rfl, rfl, h2, h1, h3, h4, h5 y List.mem_cons_self, fun z hz => h5 z (List.mem_cons_of_mem _ hz)⟩
theorem col_agg {zs : List Str} {n : Nat} {o t : Str} {x y : PyData} {r : List PyData} (h : o ∈ aggW) (hy : Ex zs n y) : colOf (.tuple (.str o :: .str t :: x :: y :: r)) = some (t, ("in" : Str)) := by
  obtain ⟨w, fs, rest, rfl, _, _⟩ := hy.form
  unfold colOf
  split
  · rename_i e
    cases e
  · rename_i e
    cases e
    exact if_pos h
  · rename_i h1 h2
    exact absurd rfl (h2 _ _ _ _ _)
theorem col_no {o : Str} {r : List PyData} (h1 : o ≠ "cell") (h2 : o ∉ aggW) : colOf (.tuple (.str o :: r)) = none := by
  unfold colOf
  split
  · rename_i e
    cases e
    exact if_neg h1
  · rename_i e
    cases e
    exact if_neg h2
  · rfl
theorem cols_take {l : List PyData} {i : Nat} {x : PyData} (h : l[i]? = some x) : cols (l.take (i + 1)) = cols (l.take i) ++ (colOf x).toList := by
  unfold cols
  rw [take_snoc h, List.filterMap_append]
  cases e : colOf x with
  | none => simp [e]
  | some z => simp [e]
/-- all that may be named -/
def pairsOn (zs : List Str) : List Pr := zs.flatMap fun t => zs.map fun v => (t, v)
theorem mem_pairsOn {zs : List Str} {p : Pr} : p ∈ pairsOn zs ↔ p.1 ∈ zs ∧ p.2 ∈ zs := by
  unfold pairsOn
  rw [List.mem_flatMap]
  constructor
  · rintro ⟨t, ht, h⟩
    obtain ⟨v, hv, e⟩ := List.mem_map.mp h
    rw [← e]
    exact ⟨ht, hv⟩
  · rintro ⟨h1, h2⟩
    exact ⟨p.1, h1, List.mem_map.mpr ⟨p.2, h2, rfl⟩⟩
theorem pairsOn_len (zs : List Str) : (pairsOn zs).length = zs.length * zs.length := by
  unfold pairsOn
  rw [List.length_flatMap]
  simp [List.map_const', List.sum_replicate_nat]
theorem cols_in {zs : List Str} {n : Nat} {l : List PyData} (hi : ("in" : Str) ∈ zs) (h : ∀ x, x ∈ l → Ex zs n x) : ∀ z, z ∈ cols l → z ∈ pairsOn zs := by
  intro z hz
  obtain ⟨x, hx, e⟩ := List.mem_filterMap.mp hz
  have hex := h x hx
  obtain ⟨w, fs, rest, rfl, _, _⟩ := hex.form
  by_cases hw : w = "cell"
  · subst hw
    obtain ⟨m, t, v, y, _, ht, hv, rfl, _⟩ := hex.cell_of
    rw [col_cell] at e
    cases e
    exact mem_pairsOn.mpr ⟨ht, hv⟩
  by_cases ha : w ∈ aggW
  · obtain ⟨m, t, xs, y, ys, _, rfl, ht, _, _, _, hy, _⟩ := hex.agg_of ha
    rw [col_agg ha hy] at e
    cases e
    exact mem_pairsOn.mpr ⟨ht, hi⟩
  · rw [col_no hw ha] at e
    cases e
theorem nodup_le' {α : Type} [BEq α] [LawfulBEq α] : ∀ {l m : List α}, l.Nodup → (∀ z, z ∈ l → z ∈ m) → l.length ≤ m.length
  | [], _, _, _ => Nat.zero_le _
  | a :: l, m, h, s => by
    obtain ⟨h1, h2⟩ := List.nodup_cons.mp h
    have ha := s a List.mem_cons_self
    have := nodup_le' (m := m.erase a) h2 fun z hz => by
      have hne : z ≠ a := fun e => h1 (e ▸ hz)
      exact (List.mem_erase_of_ne hne).mpr (s z (List.mem_cons_of_mem _ hz))
    rw [List.length_erase_of_mem ha] at this
    have pos : 0 < m.length := List.length_pos_of_mem ha
    rw [List.length_cons]
    omega
/-- one more -/
def putP (d : Pr) (l : List Pr) : List Pr := if d ∈ l then l else l ++ [d]
theorem mem_putP {d z : Pr} {l : List Pr} : z ∈ putP d l ↔ z ∈ l ∨ z = d := by
  unfold putP
  by_cases h : d ∈ l
  · rw [if_pos h]
    exact ⟨.inl, fun e => e.elim id fun e => e ▸ h⟩
  · rw [if_neg h, List.mem_append, List.mem_singleton]
theorem putP_nodup {d : Pr} {l : List Pr} (h : l.Nodup) : (putP d l).Nodup := by
  unfold putP
  by_cases e : d ∈ l
  · rw [if_pos e]
    exact h
  · rw [if_neg e]
    exact List.nodup_append.mpr ⟨h, List.pairwise_singleton _ _, fun a ha b hb e' => by
      rw [List.mem_singleton.mp hb] at e'
      exact e (e' ▸ ha)⟩
/-- the dict of these pairs -/
def kvP (l : List Pr) : List (List L2.Key × V) := l.map fun d => (pk d, V.bl true)
theorem kvP_put (d : Pr) : ∀ l : List Pr, putK (kvP l) (pk d) (.bl true) = kvP (putP d l) := by
  intro l
  unfold putK putP
  by_cases h : d ∈ l
  · have a : ((kvP l).any fun kv => decide (kv.1 = pk d)) = true := List.any_eq_true.mpr ⟨(pk d, .bl true), List.mem_map.mpr ⟨d, h, rfl⟩, by simp⟩
    rw [if_pos a, if_pos h]
    unfold kvP
    rw [List.map_map]
    refine List.map_congr_left fun e _ => ?_
    show (if pk e = pk d then (pk e, V.bl true) else (pk e, V.bl true)) = (pk e, V.bl true)
    rw [ite_self]
  · have a : ¬ ((kvP l).any fun kv => decide (kv.1 = pk d)) = true := fun z => by
      obtain ⟨kv, hkv, e⟩ := List.any_eq_true.mp z
      obtain ⟨d', hd', rfl⟩ := List.mem_map.mp hkv
      exact h (pk_inj (of_decide_eq_true e) ▸ hd')
    rw [if_neg a, if_neg h]
    unfold kvP
    rw [List.map_append]
    rfl
theorem kvP_keys (l : List Pr) : (kvP l).map (·.1) = l.map pk := by
  unfold kvP
  rw [List.map_map]
  rfl
section
variable {P : Program} {w : World} {K : PySem.W.Frag} {mg : Str → Option Value} {base : Heap}
/-- the aggregates' words, written -/
def AggK (K : PySem.W.Frag) (aA : Addr) : Prop := ∀ H, SqT K H aA (aggW.map V.str)
/-- pairs laid, ascending -/
def Cols (H : Hp) (p : Addr) (l : List Pr) : Prop := ∃ qs : PL, H p = some (.tup (qs.map fun q => V.ref q.1)) ∧ (∀ q, q ∈ qs → H q.1 = some (.tup [.str q.2.1, .str q.2.2])) ∧ qs.map (·.2) = l
abbrev s_columns_of : Stmt := topS 11
abbrev N_cols : List Str := ["expression", "found", "part"]
theorem sc_columns_of : FnScope N_cols ["expression"] (defScope s_columns_of) := ⟨rfl, rfl, rfl, by decide +kernel, rfl, by decide +kernel, by decide +kernel⟩
def sp_columns_of (K : PySem.W.Frag) : Sp := fun vs H Q _ => ∃ (v : V) (x : PyData) (zs : List Str) (n : Nat), vs = [v] ∧ Dp K H v x ∧ Ex zs n x ∧ (flatP n x).length ≤ 2100000 ∧ zs.length ≤ 7 ∧ ("in" : Str) ∈ zs ∧
  ∀ H' p ys, Same H H' → H p = none → Cols H' p ys → Up ys → (∀ z, z ∈ ys ↔ z ∈ cols (lvls n [x])) → Q (.ref p) H'
theorem ok_columns_of {f fc aA : Addr} {fd fdc : FuncData} {k : Nat} (F : Fun K "columns_of" "columns_of" s_columns_of f fd) (Gc : FnOk P w K mg base CX0 k fc fdc ["expression"] (sp_all_parts K)) (gc : mg "all_parts" = some (.ref fc)) (Kc : PySem.W.keepIn K (.ref fc) = true) (bc : Binds K fdc ["expression"] [])
    (mAGG : mg "AGGREGATES" = some (.ref aA)) (T : AggK K aA) (msorted : mg "sorted" = none) (mtuple : mg "tuple" = none) : FnOk P w K mg base CX0 (k + 1) f fd ["expression"] (sp_columns_of K) := by
  have nd := sc_columns_of.nd
  refine F.ok sc_columns_of (fun vs H Q E h => ?_) (fun cdv A outer s H vs Q E hr h => ?_)
  · obtain ⟨v, x, zs, n, rfl, _⟩ := h
    rfl
  obtain ⟨v, x, zs, n, rfl, hd, he, hb, h7, hi, q⟩ := h
  have hu1 : (A.deeper (envOfC "columns_of" (defScope s_columns_of) s.heap.objs.size f cdv)).units + 1 < cLine := by
    have := hr.units
    omega
  refine ⟨_, (pss_cons (ps_set (i := 1) nd rfl (.inl rfl) pe_dnewT)
      (pss_cons (ps_for PassesOwn.never rfl (pi_list (pe_call Gc hr (by rfl) gc Kc bc .nil pass0 (pa_cons (pv 0) pa_nil))) (pg_name (i := 2) nd rfl (Or.inl rfl))
      (pss_one (ps_if (pt_cmpR op_eq (pe_ix ix_tup (pv 2) pe_int (fun _ _ => rfl)) pe_str (nomark _))
        (pss_one (ps_dput hu1 (pv 1) (pe_tup (pa_cons (pe_ix ix_tup (pv 2) pe_int (fun _ _ => rfl)) (pa_cons (pe_ix ix_tup (pv 2) pe_int (fun _ _ => rfl)) pa_nil))) pe_bl (by rfl)))
        (pss_one (ps_if (pt_cmpR op_in_seq (pe_ix ix_tup (pv 2) pe_int (fun _ _ => rfl)) (pe_glob rfl mAGG (v := .ref aA) rfl) (by rfl))
          (pss_one (ps_dput hu1 (pv 1) (pe_tup (pa_cons (pe_ix ix_tup (pv 2) pe_int (fun _ _ => rfl)) (pa_cons pe_str pa_nil))) pe_bl (by rfl)))
          pss_nil)))))
      (pss_one (ps_ret (pe_callTy call_tuple_of (by rfl) mtuple boot_tuple (pa_cons (pe_callB (cr_sortD rfl) (by rfl) msorted boot_sorted (pa_cons (pv 1) pa_nil)) pa_nil)))))), ?_⟩
  refine fun D nD => ?_
  have sD := same_upd (o := .dT []) nD
  have hD0 : upd H D (.dT []) D = some (.dT []) := upd_same
  revert sD hD0
  generalize upd H D (.dT []) = H0
  intro sD hD0
  refine ⟨v, rfl, v, x, zs, n, rfl, dp_keep (KeepT.of sD) _ _ he.flat hd, he, hb, fun H1 p us s1 np hp hu => ⟨p, rfl, ⟨us, .inl (.inl hp)⟩, ?_⟩⟩
  have hD1 := s1 _ _ hD0
  have pD : p ≠ D := fun z => by rw [z, hD1] at hp; cases hp
  have hx1 : ∀ y, y ∈ [x] → Ex zs n y := fun y hy => by
    rw [List.mem_singleton.mp hy]
    exact he
  have hE := lvls_ex hx1
  have lu := dpAll_len hu
  have hcz := cols_in hi hE
  have cnt : ∀ {l : List Pr} {i : Nat}, l.Nodup → (∀ z, z ∈ l ↔ z ∈ cols ((lvls n [x]).take i)) → l.length ≤ 49 := fun {l i} hn hm => by
    have h1 := nodup_le' (m := pairsOn zs) hn fun z hz => hcz z (by
      obtain ⟨y, hy, e⟩ := List.mem_filterMap.mp ((hm z).mp hz)
      exact List.mem_filterMap.mpr ⟨y, List.mem_of_mem_take hy, e⟩)
    rw [pairsOn_len] at h1
    have h2 : zs.length * zs.length ≤ 7 * 7 := Nat.mul_le_mul h7 h7
    omega
  refine for_list (xs := us) (fun i σ H' => ∃ (y : Option V) (l : List Pr), σ = [some v, some (.ref D), y] ∧ H' D = some (.dT (kvP l)) ∧ l.Nodup ∧ (∀ z, z ∈ l ↔ z ∈ cols ((lvls n [x]).take i)) ∧ ∀ b o, b ≠ D → H1 b = some o → H' b = some o) ?_ ?_ ?_ ?_
  · refine ⟨none, [], rfl, hD1, .nil, fun z => ?_, fun b o _ e => e⟩
    rw [List.take_zero]
    exact Iff.rfl
  · rintro i σ H' _ ⟨y, l, rfl, hl, hn, hm, kk⟩
    exact .inl (.inl (kk _ _ pD hp))
  · rintro i y σ H' hy ⟨y0, l, rfl, hl, hn, hm, kk⟩
    obtain ⟨d, hdi, hyd⟩ := dpAll_at hu hy
    have ex := hE d (List.mem_of_getElem? hdi)
    have kt : KeepT H1 H' := ⟨fun b us e => kk _ _ (ne_of e hD1 (fun z => by cases z)) e, fun b o us e => kk _ _ (ne_of e hD1 (fun z => by cases z)) e⟩
    have hyd2 := ex.kept kt hyd
    have ct := cols_take hdi
    have c49 := cnt hn hm
    -- one more pair
    have more : ∀ (H3 : Hp) (b : Addr) (d' : Pr), (∀ b o, b ≠ D → H1 b = some o → H3 b = some o) → H3 D = some (.dT (kvP l)) → H3 b = some (.tup [.str d'.1, .str d'.2]) → colOf d = some d' →
        ∃ H4, DPut H3 D (.ref b) (.bl true) H4 ∧ ∃ (y0 : Option V) (l' : List Pr), [some v, some (.ref D), some y] = [some v, some (.ref D), y0] ∧ H4 D = some (.dT (kvP l')) ∧ l'.Nodup ∧ (∀ z, z ∈ l' ↔ z ∈ cols ((lvls n [x]).take (i + 1))) ∧ ∀ b o, b ≠ D → H1 b = some o → H4 b = some o := by
      intro H3 b d' k3 h3 hb e
      refine ⟨_, DPut.t (k := pk d') h3 hb ?_, some y, putP d' l, rfl, ?_, putP_nodup hn, fun z => ?_, fun b o hb e => ?_⟩
      · unfold kvP
        rw [List.length_map, sizeLine_eq]
        omega
      · rw [upd_same, kvP_put]
      · rw [mem_putP, ct, List.mem_append, hm z, e]
        simp
      · rw [upd_ne hb]
        exact k3 b o hb e
    obtain ⟨wd, fs, rest, rfl, _, _⟩ := ex.form
    cases hyd2 with
    | tup hS hA =>
    cases hA with
    | @cons vw vs0 dw ds0 hw hA =>
    cases hw
    rename_i a
    refine ⟨.ref a, rfl, a, _, 0, .str wd, rfl, rfl, hS, at0, rfl, _, rfl, ite2 (fun e1 => ?_) (fun e1 => ?_)⟩
    · have e1 : wd = "cell" := by simpa using e1
      subst e1
      obtain ⟨m, t, z, x0, _, ht, hz, rfl, _⟩ := ex.cell_of
      cases hA with
      | @cons v1 vs1 d1 ds1 g1 hA =>
      cases hA with
      | @cons v2 vs2 d2 ds2 g2 hA =>
      cases hA with
      | @cons v3 vs3 d3 ds3 g3 hA =>
      cases hA
      cases g1
      cases g3
      refine ⟨.ref D, rfl, .ref a, rfl, a, _, 1, .str t, rfl, rfl, hS, at1, .ref a, rfl, a, _, 3, .str z, rfl, rfl, hS, at3, le2, fun b nb => ?_⟩
      have sb := same_upd (o := .tup [.str t, .str z]) nb
      obtain ⟨H4, put, rest⟩ := more _ b (t, z) (fun c o hc e => sb c o (kk c o hc e)) (sb _ _ hl) upd_same col_cell
      exact ⟨D, H4, rfl, put, rest⟩
    · have e1 : wd ≠ "cell" := fun z => e1 (by simpa using z)
      refine ⟨.ref a, rfl, a, _, 0, .str wd, rfl, rfl, hS, at0, aA, _, rfl, .inr (T H'), rfl, flat_strs aggW, _, rfl, ?_⟩
      rw [wanted_in]
      refine ite2 (fun e2 => ?_) (fun e2 => ?_)
      · have e2 : wd ∈ aggW := by simpa using e2
        obtain ⟨m, t, xs, y1, ys, _, rfl, ht, _, _, _, hy1, _⟩ := ex.agg_of e2
        cases hA with
        | @cons v1 vs1 d1 ds1 g1 hA =>
        cases g1
        refine ⟨.ref D, rfl, .ref a, rfl, a, _, 1, .str t, rfl, rfl, hS, at1, le2, fun b nb => ?_⟩
        have sb := same_upd (o := .tup [.str t, .str "in"]) nb
        obtain ⟨H4, put, rest⟩ := more _ b (t, "in") (fun c o hc e => sb c o (kk c o hc e)) (sb _ _ hl) upd_same (col_agg e2 hy1)
        exact ⟨D, H4, rfl, put, rest⟩
      · have e2 : wd ∉ aggW := fun z => e2 (by simpa using z)
        refine ⟨some (.ref a), l, rfl, hl, hn, fun z => ?_, kk⟩
        rw [ct, col_no e1 e2, hm z]
        simp
  · rintro σ H2 ⟨y, l, rfl, hl, hn, hm, kk⟩
    rw [lu, List.take_length] at hm
    have c49 := cnt (i := (lvls n [x]).length) hn (by rw [List.take_length]; exact hm)
    refine ⟨.ref D, rfl, D, kvP l, l, rfl, hl, kvP_keys l, by omega, fun qs r nr hq pm up => ?_⟩
    have sr := same_upd (o := .lst (qs.map fun q => V.ref q.1)) nr
    refine ⟨r, qs.map fun q => V.ref q.1, rfl, .inl ⟨.inl (.inl upd_same), fun t nt => ?_⟩⟩
    have st := same_upd (o := .tup (qs.map fun q => V.ref q.1)) nt
    have hk : Same H H2 := fun b o e => by
      have h0 := s1 _ _ (sD b o e)
      exact kk b o (ne_of_none e nD) h0
    refine q _ t (qs.map (·.2)) (hk.trans (sr.trans st)) ((hk.trans sr).free nt) ⟨qs, upd_same, fun z hz => st _ _ (sr _ _ (hq z hz)), rfl⟩ up fun z => ?_
    rw [pm.mem_iff]
    exact hm z
end
end K5

namespace K5
open PySem PySem.Spec PyProof.Rows L2 GR WX TX UA
abbrev leafW : List Str := ["int", "var", "key", "let"]
/-- one with a word of another kind holds all that stands behind it -/
theorem ex_rest_of {zs : List Str} {n : Nat} {o : Str} {rest : List PyData} (h : Ex zs n (.tuple (.str o :: rest))) (h1 : o ∉ aggW) (h2 : o ≠ "cell") : (o ∈ leafW ∧ kids (.tuple (.str o :: rest)) = []) ∨ (o ∉ leafW ∧ kids (.tuple (.str o :: rest)) = rest ∧ rest ≠ [] ∧ rest.length ≤ 3) := by
  generalize hx : PyData.tuple (.str o :: rest) = x at h
  cases h with
  | leaf n x h =>
    refine .inl ⟨?_, kids_leaf h⟩
    cases h <;> cases hx <;> decide
  | cell n t v x h1 h2' h3 =>
    cases hx
    exact absurd rfl h2
  | op n o' x y h1 h2 h3 =>
    cases hx
    refine .inr ⟨?_, kids_op h1, List.cons_ne_nil _ _, by simp only [List.length_cons, List.length_nil]; decide⟩
    simp only [opws, List.mem_cons, List.not_mem_nil, or_false] at h1
    rcases h1 with rfl | rfl | rfl | rfl | rfl | rfl <;> decide
  | iff n x y z h1 h2 h3 =>
    cases hx
    exact .inr ⟨by decide, kids_if, List.cons_ne_nil _ _, by simp only [List.length_cons, List.length_nil]; decide⟩
  | agg n o' t xs ys h1' h2 h3 h4 h5 =>
    cases hx
    exact absurd (aggs_w h1').1 h1
section
variable {P : Program} {w : World} {K : PySem.W.Frag} {mg : Str → Option Value} {base : Heap}
abbrev s_law_inside : Stmt := topS 21
theorem sc_law_inside : FnScope ["_law_thing"] ["_law_thing"] (defScope s_law_inside) := ⟨rfl, rfl, rfl, by decide +kernel, rfl, by decide +kernel, by decide +kernel⟩
def sp_inside (K : PySem.W.Frag) : Sp := fun vs H Q _ => ∃ (v : V) (x : PyData) (zs : List Str) (n : Nat), vs = [v] ∧ Dp K H v x ∧ Ex zs n x ∧ ∀ H' p us, Same H H' → H p = none → H' p = some (.lst us) → DpAll K H' us (kids x) → Q (.ref p) H'
theorem ok_inside {f : Addr} {fd : FuncData} {k : Nat} (F : Fun K "_law_inside" "_law_inside" s_law_inside f fd) (mlist : mg "list" = none) : FnOk P w K mg base CX0 (k + 1) f fd ["_law_thing"] (sp_inside K) := by
  have nd := sc_law_inside.nd
  refine F.ok sc_law_inside (fun vs H Q E h => ?_) (fun cdv A outer s H vs Q E hr h => ?_)
  · obtain ⟨v, x, zs, n, rfl, _⟩ := h
    rfl
  obtain ⟨v, x, zs, n, rfl, hd, he, q⟩ := h
  refine ⟨_, (pss_cons (ps_if (pt_cmpR op_in_seq (pe_ix ix_tup (pv 0) pe_int (fun _ _ => rfl)) (pe_tup (pa_cons pe_str (pa_cons pe_str (pa_cons pe_str (pa_cons pe_str pa_nil))))) (by rfl))
      (pss_one (ps_ret (pe_callTy call_list_of (by rfl) mlist boot_list (pa_cons (pe_op op_catA (pe_ix ix_tup (pv 0) pe_int (fun _ _ => rfl)) (pe_slice sl_tup (pv 0) (po_some pe_int) po_none)) pa_nil))))
      pss_nil)
      (pss_cons (ps_if (pt_cmpR op_eq (pe_ix ix_tup (pv 0) pe_int (fun _ _ => rfl)) pe_str (nomark _))
      (pss_one (ps_ret (pe_lst (pa_cons (pe_ix ix_tup (pv 0) pe_int (fun _ _ => rfl)) pa_nil))))
      pss_nil)
      (pss_one (ps_ret (pe_ifExp (pt_cmpR op_in_seq (pe_ix ix_tup (pv 0) pe_int (fun _ _ => rfl)) (pe_tup (pa_cons pe_str (pa_cons pe_str (pa_cons pe_str (pa_cons pe_str pa_nil))))) (by rfl)) (pe_lst pa_nil) (pe_callTy call_list_of (by rfl) mlist boot_list (pa_cons (pe_slice sl_tup (pv 0) (po_some pe_int) po_none) pa_nil))))))), ?_⟩
  obtain ⟨wd, fs, rest, rfl, _, _⟩ := he.form
  have hfl := he.flat
  rw [flatD, flatDs, Bool.and_eq_true] at hfl
  have hfl2 := hfl.2
  cases hd with
  | tup hS hA =>
  cases hA with
  | @cons vw vs0 dw ds0 hw hA =>
  cases hw
  rename_i a
  have l0 := dpAll_len hA
  refine ⟨.ref a, rfl, a, _, 0, .str wd, rfl, rfl, hS, at0, small_le (show 4 ≤ 1000 by decide), fun p1 np1 => ?_⟩
  have s1 := same_upd (o := .tup [.str "count", .str "sum", .str "most", .str "first"]) np1
  have hp1 : SqT K (upd H p1 (.tup [.str "count", .str "sum", .str "most", .str "first"])) p1 (aggW.map V.str) := .inl (.inl upd_same)
  refine ⟨p1, aggW.map V.str, rfl, .inr hp1, rfl, flat_strs aggW, _, rfl, ?_⟩
  clear hp1
  revert s1
  generalize upd H p1 (.tup [.str "count", .str "sum", .str "most", .str "first"]) = H1
  intro s1
  rw [wanted_in]
  have hS1 := (KeepT.of s1).seqt hS
  have hA1 := dp_keepAll (KeepT.of s1) _ _ hfl2 hA
  refine ite2 (fun e1 => ?_) (fun e1 => ?_)
  · have e1 : wd ∈ aggW := by simpa using e1
    obtain ⟨m, t, xs, y, ys, _, rfl, ht, ho, hx2, hxs, hy, hys⟩ := he.agg_of e1
    cases hA1 with
    | @cons v1 vs1 d1 ds1 g1 hA1 =>
    cases hA1 with
    | @cons v2 vs2 d2 ds2 g2 hA1 =>
    cases g2 with
    | @tup b us _ hb hB =>
    have lb := dpAll_len hB
    have ly := dpAll_len hA1
    have hk : kids (.tuple (.str wd :: .str t :: .tuple xs :: y :: ys)) = xs ++ (y :: ys) := kids_agg (by rw [List.length_cons]; exact ho)
    rw [hk] at q
    simp only [flatDs, flatD, Bool.and_eq_true] at hfl2
    have fxs : flatDs xs = true := hfl2.2.1
    have fys : flatDs (y :: ys) = true := by
      rw [flatDs, hfl2.2.2.1, hfl2.2.2.2]
      rfl
    have ys4 : ys.length + 1 ≤ 4 := by
      have : ∀ p, p ∈ aggs → p.2 ≤ 4 := by decide
      exact this _ ho
    rw [List.length_cons] at ly
    refine ⟨.ref a, rfl, a, _, 2, .ref b, rfl, rfl, hS1, at2, .ref a, rfl, 3, rfl, a, _, rfl, hS1, ?_, fun c nc => ?_⟩
    · rintro ⟨e, _⟩
      have : HT.sIx (V.str wd :: v1 :: V.ref b :: vs2).length 0 (some 3) = min 3 (V.str wd :: v1 :: V.ref b :: vs2).length := HT.sIx_nat _ _ 3
      rw [this] at e
      simp only [List.length_cons] at e
      omega
    have hlen : (V.str wd :: v1 :: V.ref b :: vs2).length = vs2.length + 3 := by simp only [List.length_cons]
    have cut : cutV (V.str wd :: v1 :: V.ref b :: vs2) (some 3) none = vs2 := by
      unfold cutV
      rw [HT.sIx_none, show HT.sIx (V.str wd :: v1 :: V.ref b :: vs2).length 0 (some 3) = 3 from (HT.sIx_nat _ _ 3).trans (by rw [hlen]; omega), hlen]
      show vs2.take _ = _
      exact List.take_of_length_le (by omega)
    rw [cut]
    have s2 := same_upd (o := .tup vs2) nc
    have hc : SqT K (upd H1 c (.tup vs2)) c vs2 := .inl (.inl upd_same)
    revert s2 hc
    generalize upd H1 c (.tup vs2) = H2
    intro s2 hc
    have hb2 := (KeepT.of s2).seqt hb
    have hB2 := dp_keepAll (KeepT.of s2) _ _ fxs hB
    have hY2 := dp_keepAll (KeepT.of s2) _ _ fys hA1
    refine ⟨b, c, us, vs2, rfl, rfl, hb2, hc, small_le (by omega), fun e => ?_, fun _ e => ?_, fun _ _ l nl => ?_⟩
    · have ex : xs = [] := by
        cases xs with
        | nil => rfl
        | cons _ _ => rw [e] at lb; cases lb
      rw [ex, List.nil_append] at q
      refine ⟨c, vs2, rfl, .inr hc, fun l nl => ?_⟩
      have s3 := same_upd (o := .lst vs2) nl
      exact q _ l vs2 ((s1.trans s2).trans s3) ((s1.trans s2).free nl) upd_same (dp_keepAll (KeepT.of s3) _ _ fys hY2)
    · rw [e] at ly
      simp only [List.length_nil] at ly
      omega
    · have s3 := same_upd (o := .tup (us ++ vs2)) nl
      refine ⟨l, us ++ vs2, rfl, .inr (.inl (.inl upd_same)), fun l2 nl2 => ?_⟩
      have s4 := same_upd (o := .lst (us ++ vs2)) nl2
      have s14 := s1.trans (s2.trans s3)
      exact q _ l2 _ (s14.trans s4) (s14.free nl2) upd_same (dpAll_append (dp_keepAll (KeepT.of (s3.trans s4)) _ _ fxs hB2) (dp_keepAll (KeepT.of (s3.trans s4)) _ _ fys hY2))
  · have e1 : wd ∉ aggW := fun z => e1 (by simpa using z)
    refine ⟨.ref a, rfl, a, _, 0, .str wd, rfl, rfl, hS1, at0, rfl, _, rfl, ite2 (fun e2 => ?_) (fun e2 => ?_)⟩
    · have e2 : wd = "cell" := by simpa using e2
      subst e2
      obtain ⟨m, t, z, x0, _, ht, hz, rfl, hx0⟩ := he.cell_of
      cases hA1 with
      | @cons v1 vs1 d1 ds1 g1 hA1 =>
      cases hA1 with
      | @cons v2 vs2 d2 ds2 g2 hA1 =>
      refine ⟨.ref a, rfl, a, _, 2, v2, rfl, rfl, hS1, at2, small_le (show 1 ≤ 1000 by decide), fun l nl => ?_⟩
      have s2 := same_upd (o := .lst [v2]) nl
      refine q _ l [v2] (s1.trans s2) (s1.free nl) upd_same ?_
      rw [kids_cell]
      exact .cons (dp_keep (KeepT.of s2) _ _ hx0.flat g2) .nil
    · have e2 : wd ≠ "cell" := fun z => e2 (by simpa using z)
      refine ⟨.ref a, rfl, a, _, 0, .str wd, rfl, rfl, hS1, at0, small_le (show 4 ≤ 1000 by decide), fun p2 np2 => ?_⟩
      have s2 := same_upd (o := .tup [.str "int", .str "var", .str "key", .str "let"]) np2
      have hp2 : SqT K (upd H1 p2 (.tup [.str "int", .str "var", .str "key", .str "let"])) p2 (leafW.map V.str) := .inl (.inl upd_same)
      refine ⟨p2, leafW.map V.str, rfl, .inr hp2, rfl, flat_strs leafW, _, rfl, ?_⟩
      rw [wanted_in]
      clear hp2
      revert s2
      generalize upd H1 p2 (.tup [.str "int", .str "var", .str "key", .str "let"]) = H2
      intro s2
      have hS2 := (KeepT.of s2).seqt hS1
      have hA2 := dp_keepAll (KeepT.of s2) _ _ hfl2 hA1
      rcases ex_rest_of he e1 e2 with ⟨h1, h2⟩ | ⟨h1, h2, h3, h4⟩
      · rw [decide_eq_true h1]
        refine iteT ⟨Nat.zero_le _, fun l nl => ?_⟩
        have s3 := same_upd (o := .lst []) nl
        refine q _ l [] ((s1.trans s2).trans s3) ((s1.trans s2).free nl) upd_same ?_
        rw [h2]
        exact .nil
      · rw [decide_eq_false h1]
        have hlen : (V.str wd :: vs0).length = vs0.length + 1 := List.length_cons ..
        have hp : 0 < vs0.length := by
          rw [l0]
          exact List.length_pos_iff.mpr h3
        have i1 : HT.sIx (V.str wd :: vs0).length 0 (some 1) = 1 := (HT.sIx_nat _ _ 1).trans (by rw [hlen]; omega)
        have cut : cutV (V.str wd :: vs0) (some 1) none = vs0 := by
          unfold cutV
          rw [HT.sIx_none, i1, hlen]
          show vs0.take _ = _
          exact List.take_of_length_le (by omega)
        refine iteF ⟨.ref a, rfl, 1, rfl, a, _, rfl, hS2, fun e => ?_, fun c nc => ?_⟩
        · rw [i1] at e
          exact absurd e.1 (by decide)
        rw [cut]
        have s3 := same_upd (o := .tup vs0) nc
        refine ⟨c, vs0, rfl, .inr (.inl (.inl upd_same)), fun l nl => ?_⟩
        have s4 := same_upd (o := .lst vs0) nl
        have s13 := (s1.trans s2).trans s3
        refine q _ l vs0 (s13.trans s4) (s13.free nl) upd_same ?_
        rw [h2]
        exact dp_keepAll (KeepT.of (s3.trans s4)) _ _ hfl2 hA2
end
end K5

namespace K5
open PySem PySem.Spec PyProof.Rows L2 GR WX TX UA
/-! ### what a walk with a stack gathers -/
def mx (l : List Nat) : Nat := l.foldr max 0
theorem mx_append (l m : List Nat) : mx (l ++ m) = max (mx l) (mx m) := by
  induction l with
  | nil => exact (Nat.zero_max _).symm
  | cons a l ih =>
    show max a (mx (l ++ m)) = max (max a (mx l)) (mx m)
    rw [ih, Nat.max_assoc]
theorem mx_add (c : Nat) {α : Type} (f : α → Nat) : ∀ l : List α, max c (mx (l.map fun x => c + f x)) = c + mx (l.map f)
  | [] => Nat.max_zero c
  | x :: l => by
    have ih := mx_add c f l
    show max c (max (c + f x) (mx (l.map fun x => c + f x))) = c + max (f x) (mx (l.map f))
    omega
/-- how deep -/
def dpt : Nat → PyData → Nat
  | 0, _ => 0
  | n + 1, x => 1 + mx ((kids x).map (dpt n))
theorem mx_down {f : PyData → Nat} : ∀ l : List PyData, l ≠ [] → mx (l.map fun x => 1 + mx ((kids x).map f)) = 1 + mx ((down l).map f)
  | [], h => absurd rfl h
  | [x], _ => by
    show max (1 + mx ((kids x).map f)) 0 = 1 + mx ((kids x ++ []).map f)
    rw [List.append_nil, Nat.max_zero]
  | x :: y :: l, _ => by
    have ih := mx_down (f := f) (y :: l) (List.cons_ne_nil _ _)
    have e : down (x :: y :: l) = kids x ++ down (y :: l) := by
      unfold down
      rw [List.flatMap_cons]
    show max (1 + mx ((kids x).map f)) (mx ((y :: l).map fun x => 1 + mx ((kids x).map f))) = _
    rw [ih, e, List.map_append, mx_append]
    omega
theorem deepN_mx : ∀ (n : Nat) (l : List PyData), deepN n l = mx (l.map (dpt n))
  | 0, l => by
    show 0 = _
    induction l with
    | nil => rfl
    | cons x l ih =>
      show 0 = max 0 (mx (l.map (dpt 0)))
      rw [← ih]
      rfl
  | n + 1, [] => rfl
  | n + 1, x :: l => by
    show 1 + deepN n (down (x :: l)) = mx ((x :: l).map fun x => 1 + mx ((kids x).map (dpt n)))
    rw [mx_down _ (List.cons_ne_nil _ _), deepN_mx n]
theorem deepN_one (n : Nat) (x : PyData) : deepN n [x] = dpt n x := by
  rw [deepN_mx]
  exact Nat.max_zero _
theorem map_same {α β : Type} {f g : α → β} {l : List α} (h : ∀ x, x ∈ l → f x = g x) : l.map f = l.map g := List.map_congr_left h
theorem flatMap_same {α β : Type} {f g : α → List β} : ∀ {l : List α}, (∀ x, x ∈ l → f x = g x) → l.flatMap f = l.flatMap g
  | [], _ => rfl
  | x :: l, h => by rw [List.flatMap_cons, List.flatMap_cons, h x List.mem_cons_self, flatMap_same fun y hy => h y (List.mem_cons_of_mem _ hy)]
theorem flatP_stable {zs : List Str} : ∀ {m k : Nat} {x : PyData}, Ex zs m x → m ≤ k → flatP k x = flatP m x
  | 0, _, _, h, _ => by cases h
  | m + 1, 0, _, _, hk => by omega
  | m + 1, k + 1, x, h, hk => congrArg (x :: ·) (flatMap_same fun y hy => flatP_stable (h.kids.1 y hy) (by omega))
theorem dpt_stable {zs : List Str} : ∀ {m k : Nat} {x : PyData}, Ex zs m x → m ≤ k → dpt k x = dpt m x
  | 0, _, _, h, _ => by cases h
  | m + 1, 0, _, _, hk => by omega
  | m + 1, k + 1, x, h, hk => congrArg (fun l => 1 + mx l) (map_same fun y hy => dpt_stable (h.kids.1 y hy) (by omega))
theorem flatP_kids {zs : List Str} {n : Nat} {x : PyData} (h : Ex zs n x) : flatP n x = x :: (kids x).flatMap (flatP n) := by
  cases n with
  | zero => cases h
  | succ n => exact congrArg (x :: ·) (flatMap_same fun y hy => (flatP_stable (h.kids.1 y hy) (Nat.le_succ n)).symm)
theorem dpt_kids {zs : List Str} {n : Nat} {x : PyData} (h : Ex zs n x) : dpt n x = 1 + mx ((kids x).map (dpt n)) := by
  cases n with
  | zero => cases h
  | succ n => exact congrArg (fun l => 1 + mx l) (map_same fun y hy => (dpt_stable (h.kids.1 y hy) (Nat.le_succ n)).symm)
theorem ex_kid {zs : List Str} {n : Nat} {x : PyData} (h : Ex zs n x) : (∀ y, y ∈ kids x → Ex zs n y) ∧ (kids x).length ≤ 6 := by
  cases n with
  | zero => cases h
  | succ n => exact ⟨fun y hy => (h.kids.1 y hy).mono (Nat.le_succ n), h.kids.2⟩
theorem lvls_flat (n : Nat) (x : PyData) : (lvls n [x]).Perm (flatP n x) := by
  have := lvls_perm n [x]
  rw [List.flatMap_cons, List.flatMap_nil, List.append_nil] at this
  exact this
/-- what is left: an expression, how many levels lie above it -/
abbrev Ent := PyData × Nat
def entD (e : Ent) : PyData := .tuple [e.1, .int ((e.2 + 1 : Nat) : Int)]
def partsE (n : Nat) (es : List Ent) : List PyData := es.flatMap fun e => flatP n e.1
def deepE (n : Nat) (es : List Ent) : Nat := mx (es.map fun e => e.2 + dpt n e.1)
theorem flat_ent {zs : List Str} {n : Nat} {e : Ent} (h : Ex zs n e.1) : flatD (entD e) = true := by
  unfold entD
  simp only [flatD, flatDs, h.flat, Bool.and_self]
theorem parts_more (n : Nat) (es fs : List Ent) : partsE n (es ++ fs) = partsE n es ++ partsE n fs := List.flatMap_append
theorem parts_kids {zs : List Str} {n : Nat} {y : PyData} {a b : Nat} (h : Ex zs n y) : partsE n [(y, a)] = y :: partsE n ((kids y).map fun z => (z, b)) := by
  unfold partsE
  rw [List.flatMap_cons, List.flatMap_nil, List.append_nil, List.flatMap_map]
  exact flatP_kids h
theorem deep_more (n : Nat) (es fs : List Ent) : deepE n (es ++ fs) = max (deepE n es) (deepE n fs) := by
  unfold deepE
  rw [List.map_append, mx_append]
theorem deep_kids {zs : List Str} {n : Nat} {y : PyData} {a : Nat} (h : Ex zs n y) : deepE n [(y, a)] = max (a + 1) (deepE n ((kids y).map fun z => (z, a + 1))) := by
  have e : deepE n ((kids y).map fun z => (z, a + 1)) = mx ((kids y).map fun z => (a + 1) + dpt n z) := by
    unfold deepE
    rw [List.map_map]
    rfl
  rw [e, mx_add]
  show max (a + dpt n y) 0 = _
  rw [dpt_kids h]
  omega
theorem parts_len {zs : List Str} {n : Nat} : ∀ {es : List Ent}, (∀ e, e ∈ es → Ex zs n e.1) → es.length ≤ (partsE n es).length
  | [], _ => Nat.le_refl _
  | e :: es, h => by
    have ih := parts_len fun f hf => h f (List.mem_cons_of_mem _ hf)
    have z := flatP_kids (h e List.mem_cons_self)
    unfold partsE at ih ⊢
    rw [List.flatMap_cons, List.length_append, z, List.length_cons, List.length_cons]
    omega
theorem vars_app (l m : List PyData) : vars (l ++ m) = vars l ++ vars m := List.filterMap_append
theorem cols_app (l m : List PyData) : cols (l ++ m) = cols l ++ cols m := List.filterMap_append
theorem vars_cons (x : PyData) (l : List PyData) : vars (x :: l) = (varName x).toList ++ vars l := by
  unfold vars
  rw [List.filterMap_cons]
  cases varName x <;> rfl
theorem cols_cons (x : PyData) (l : List PyData) : cols (x :: l) = (colOf x).toList ++ cols l := by
  unfold cols
  rw [List.filterMap_cons]
  cases colOf x <;> rfl
/-! ### the answer -/
def pairD (p : Pr) : PyData := .tuple [.str p.1, .str p.2]
def resD (a b : Nat) (ys : List Str) (cs : List Pr) : PyData := .tuple [.int (a : Int), .int (b : Int), .tuple (ys.map PyData.str), .tuple (cs.map pairD)]
structure Ans (n : Nat) (x : PyData) (ys : List Str) (cs : List Pr) : Prop where
  nd : ys.Nodup
  so : sortedS ys = true
  ys : ∀ z, z ∈ ys ↔ z ∈ vars (lvls n [x])
  up : Up cs
  cs : ∀ z, z ∈ cs ↔ z ∈ cols (lvls n [x])
theorem Ans.one {n : Nat} {x : PyData} {ys ys' : List Str} {cs cs' : List Pr} (a : Ans n x ys cs) (b : Ans n x ys' cs') : ys = ys' ∧ cs = cs' :=
  ⟨sorted_one a.so b.so a.nd b.nd fun z => (a.ys z).trans (b.ys z).symm, up_one a.up b.up fun z => (a.cs z).trans (b.cs z).symm⟩
theorem dp_names {K : PySem.W.Frag} {H : Hp} {r : Addr} {ys : List Str} (h : H r = some (.tup (ys.map V.str))) : Dp K H (.ref r) (.tuple (ys.map PyData.str)) := by
  refine .tup (.inl (.inl h)) ?_
  clear h
  induction ys with
  | nil => exact .nil
  | cons y ys ih => exact .cons (.str y) ih
theorem dp_cols {K : PySem.W.Frag} {H : Hp} {r : Addr} {cs : List Pr} (h : Cols H r cs) : Dp K H (.ref r) (.tuple (cs.map pairD)) := by
  obtain ⟨qs, h1, h2, rfl⟩ := h
  refine .tup (.inl (.inl h1)) ?_
  clear h1
  induction qs with
  | nil => exact .nil
  | cons q qs ih => exact .cons (.tup (.inl (.inl (h2 q List.mem_cons_self))) (.cons (.str _) (.cons (.str _) .nil))) (ih fun p hp => h2 p (List.mem_cons_of_mem _ hp))
theorem flat_names (ys : List Str) : flatD (.tuple (ys.map PyData.str)) = true := by
  rw [flatD]
  exact flatDs_of fun d hd => by
    obtain ⟨y, _, rfl⟩ := List.mem_map.mp hd
    simp only [flatD]
theorem flat_cols (cs : List Pr) : flatD (.tuple (cs.map pairD)) = true := by
  rw [flatD]
  exact flatDs_of fun d hd => by
    obtain ⟨y, _, rfl⟩ := List.mem_map.mp hd
    simp only [pairD, flatD, flatDs, Bool.and_self]
/-- one expression is asked, an answer of four is given -/
def sp_ans (K : PySem.W.Frag) : Sp := fun vs H Q _ => ∃ (v : V) (x : PyData) (zs : List Str) (n : Nat), vs = [v] ∧ Dp K H v x ∧ Ex zs n x ∧ (flatP n x).length ≤ 2100000 ∧ zs.length ≤ 7 ∧ ("in" : Str) ∈ zs ∧
  ∀ H' r ys cs, Same H H' → H r = none → Ans n x ys cs → Dp K H' (.ref r) (resD (lvls n [x]).length (deepN n [x]) ys cs) → Q (.ref r) H'
section
variable {P : Program} {w : World} {K : PySem.W.Frag} {mg : Str → Option Value} {base : Heap}
abbrev s_law_told : Stmt := topS 23
theorem sc_law_told : FnScope ["_law_thing"] ["_law_thing"] (defScope s_law_told) := ⟨rfl, rfl, rfl, by decide +kernel, rfl, by decide +kernel, by decide +kernel⟩
theorem ok_told {f f1 f2 f3 f4 : Addr} {fd d1 d2 d3 d4 : FuncData} {k : Nat} (F : Fun K "_law_told" "_law_told" s_law_told f fd)
    (G1 : FnOk P w K mg base CX0 k f1 d1 ["expression"] (sp_parts_of K)) (g1 : mg "parts_of" = some (.ref f1)) (K1 : PySem.W.keepIn K (.ref f1) = true) (b1 : Binds K d1 ["expression"] [])
    (G2 : FnOk P w K mg base CX0 k f2 d2 ["expression"] (sp_depth_of K)) (g2 : mg "depth_of" = some (.ref f2)) (K2 : PySem.W.keepIn K (.ref f2) = true) (b2 : Binds K d2 ["expression"] [])
    (G3 : FnOk P w K mg base CX0 k f3 d3 ["expression"] (sp_variables_of K)) (g3 : mg "variables_of" = some (.ref f3)) (K3 : PySem.W.keepIn K (.ref f3) = true) (b3 : Binds K d3 ["expression"] [])
    (G4 : FnOk P w K mg base CX0 k f4 d4 ["expression"] (sp_columns_of K)) (g4 : mg "columns_of" = some (.ref f4)) (K4 : PySem.W.keepIn K (.ref f4) = true) (b4 : Binds K d4 ["expression"] []) :
    FnOk P w K mg base CX0 (k + 1) f fd ["_law_thing"] (sp_ans K) := by
  have nd := sc_law_told.nd
  refine F.ok sc_law_told (fun vs H Q E h => ?_) (fun cdv A outer s H vs Q E hr h => ?_)
  · obtain ⟨v, x, zs, n, rfl, _⟩ := h
    rfl
  obtain ⟨v, x, zs, n, rfl, hd, he, hb, h7, hi, q⟩ := h
  refine ⟨_, (pss_one (ps_ret (pe_tup (pa_cons (pe_call G1 hr (by rfl) g1 K1 b1 .nil pass0 (pa_cons (pv 0) pa_nil)) (pa_cons (pe_call G2 hr (by rfl) g2 K2 b2 .nil pass0 (pa_cons (pv 0) pa_nil)) (pa_cons (pe_call G3 hr (by rfl) g3 K3 b3 .nil pass0 (pa_cons (pv 0) pa_nil)) (pa_cons (pe_call G4 hr (by rfl) g4 K4 b4 .nil pass0 (pa_cons (pv 0) pa_nil)) pa_nil))))))), ?_⟩
  refine ⟨v, rfl, v, x, zs, n, rfl, hd, he, hb, fun H1 s1 => ?_⟩
  have hd1 := he.kept (KeepT.of s1) hd
  refine ⟨v, rfl, v, x, zs, n, rfl, hd1, he, hb, fun H2 s2 => ?_⟩
  have hd2 := he.kept (KeepT.of s2) hd1
  refine ⟨v, rfl, v, x, zs, n, rfl, hd2, he, hb, by omega, fun H3 p ys s3 np hp n1 so m1 => ?_⟩
  have hd3 := he.kept (KeepT.of s3) hd2
  refine ⟨v, rfl, v, x, zs, n, rfl, hd3, he, hb, h7, hi, fun H4 c cs s4 nc hc up m2 => ?_⟩
  refine ⟨small_le (show 4 ≤ 1000 by decide), fun r nr => ?_⟩
  have s5 := same_upd (o := .tup [.int ((lvls n [x]).length : Int), .int (deepN n [x] : Int), .ref p, .ref c]) nr
  have s14 := ((s1.trans s2).trans s3).trans s4
  exact q _ r ys cs (s14.trans s5) (s14.free nr) ⟨n1, so, m1, up, m2⟩
    (.tup (.inl (.inl upd_same)) (.cons (.int _) (.cons (.int _) (.cons (dp_keep (KeepT.of s5) _ _ (flat_names ys) (dp_names (s4 _ _ hp))) (.cons (dp_keep (KeepT.of s5) _ _ (flat_cols cs) (dp_cols hc)) .nil)))))
end
end K5

/-! set(a list of texts). -/
namespace UA
open PySem PySem.Spec PyProof.Rows L2 TX
section
variable {P : Program} {w : World} {A : Around} {E : Value → Shared → Prop} {s : Shared}
theorem add_text {a : Addr} {l : List Str} {x : Str} {u : Tok} {Q : Bool → Shared → Prop} (R : SetS w s.heap a l) (small : l.length + 1 < scanBound) (hQ : ∀ y h', Heap.SameBut a s.heap h' → SetS w h' a (put x l) → Q y { s with heap := h', toks := s.toks + 1 }) :
    wpAny (model P w) A (setAdd a (.str x u)) Q E s := by
  obtain ⟨o, es, ep, t, ho, hx, hd, G, nd, hb, hf, hr, hl⟩ := R
  unfold setAdd
  apply wpAny_holding
  apply wpAny_bind
  refine (PySem.strKind P w).pyHash (isStr x u) ?_
  have sz : es.size = l.length := by
    have := G.perm.length_eq
    rw [List.length_map, Array.length_toList] at this
    exact this
  refine TX.add (s := { s with toks := s.toks + 1 }) (knd := PySem.strKind P w) (k := x) (v := .str x u) ho hd G.kind (by omega) hf (isStr x u) rfl ?_ ?_
  · intro hin
    refine hQ false s.heap (Heap.SameBut.refl a s.heap) ?_
    unfold put
    rw [if_pos ((G.mem x).1 hin)]
    exact ⟨o, es, ep, t, ho, hx, hd, G, nd, hb, hf, hr, hl⟩
  · intro out h' N
    refine hQ true h' N.same ?_
    have hn : x ∉ l := fun z => by
      obtain ⟨e, he, q⟩ := (G.mem (P := P) x).2 z
      rw [out e he] at q
      cases q
    unfold put
    rw [if_neg hn]
    obtain ⟨es1, ep1, t1, h1, p1, f1, r1, l1⟩ := N.at'
    have sz1 : es1.size = es.size + 1 := by
      have := p1.length_eq
      rw [Array.length_toList, List.length_cons, Array.length_toList] at this
      exact this
    exact ⟨_, es1, ep1, t1, h1, hx, rfl, G.more (P := P) p1, List.nodup_cons.mpr ⟨hn, nd⟩, by omega, f1, r1 hr, hl.imp id fun z => l1.trans z⟩
theorem setS_nd {h : Heap} {a : Addr} {l : List Str} (R : SetS w h a l) : l.Nodup := by
  obtain ⟨o, es, ep, t, ho, hx, hd, G, nd, _⟩ := R
  exact nd
/-- the texts that are unlike are few -/
def FewT (ks : List Str) : Prop := ∀ M : List Str, M.Nodup → (∀ k, k ∈ M → k ∈ ks) → M.length ≤ 1000
theorem text_loop {I : Addr} {fp wr : List Addr} {G : Array GenState → Array GenState → Prop} {n : Nat} {Pv : Nat → Value → Prop} {St : Nat → Shared → Prop} {R : Result → Shared → Prop} (W : WalksS P w A.in1 I fp wr G n Pv St) (S : Addr) (far : S ∉ fp)
    (ks : List Str) (hn : n = ks.length) (few : FewT ks) (val : ∀ i v, Pv i v → ∃ x t, ks[i]? = some x ∧ v = .str x t) :
    ∀ (m i : Nat) (s : Shared), n - i = m → i ≤ n → St i s → (∃ L, SetS w s.heap S L ∧ ∀ z, z ∈ L ↔ z ∈ ks.take i) →
      (∀ s' L, Moved (S :: wr) G s s' → SetS w s'.heap S L → (∀ z, z ∈ L ↔ z ∈ ks) → R (.ok (.ret .none)) s') → codeAny (model P w) A (.builtin "set.update.loop" ⟨[.ref S, .ref I], []⟩) R s
  | 0, i, s, hm, hi, st, ⟨L, hS, g⟩, q => by
    obtain rfl : i = n := by omega
    refine codeAny_builtin F.entry_set_update_loop ?_
    rw [Around.under_plainId F.plain_set_update_loop _]
    show wpAny _ A.in1 (pyNext (.ref I) >>= _) _ _ s
    apply wpAny_bind
    refine W.done s _ _ st fun s' mv => ?_
    rw [hn, List.take_length] at g
    exact wpAny_pure (q s' L (mv.mono fun b hb => List.mem_cons_of_mem _ hb) (hS.keep fun o e => mv.heap S o (fun z => far (W.sub _ z)) e) g)
  | m + 1, i, s, hm, hi, st, ⟨L, hS, g⟩, q => by
    have lt : i < n := by omega
    refine codeAny_builtin F.entry_set_update_loop ?_
    rw [Around.under_plainId F.plain_set_update_loop _]
    show wpAny _ A.in1 (pyNext (.ref I) >>= _) _ _ s
    apply wpAny_bind
    refine W.item i s _ _ lt st fun v s' hv st' mv => ?_
    obtain ⟨x, t, hx, rfl⟩ := val i v hv
    have hS' : SetS w s'.heap S L := hS.keep fun o e => mv.heap S o (fun z => far (W.sub _ z)) e
    have fw := few L (setS_nd hS) fun k hk => List.mem_of_mem_take ((g k).mp hk)
    show wpAny _ A.in1 (holding [Value.str x t] (setAdd S (.str x t)) >>= _) _ _ s'
    apply wpAny_bind
    apply wpAny_holding
    refine add_text hS' (by unfold scanBound; omega) fun y h' sb hS2 => ?_
    refine wpAny_pure ⟨plainId_quiet F.plain_set_update_loop _, text_loop W S far ks hn few val m (i + 1) _ (by omega) lt (W.frame _ s' _ _ st' (Nat.le_add_right _ _) fun b hb o e => ?_) ⟨put x L, hS2, fun z => ?_⟩
      fun s'' L2 mv2 hS3 g2 => q s'' L2 (Moved.trans W.gtrans ((mv.mono fun b hb => List.mem_cons_of_mem _ hb).then_heap (Nat.le_add_right _ _) fun b o hb e => ?_) mv2) hS3 g2⟩
    · rw [sb.2 b fun z => far (z ▸ hb)]
      exact e
    · have tk : ks.take (i + 1) = ks.take i ++ [x] := by rw [List.take_add_one, hx]; rfl
      rw [mem_put, g z, tk, List.mem_append, List.mem_singleton]
      exact Or.comm
    · rw [sb.2 b fun z => hb (z ▸ List.mem_cons_self)]
      exact e
/-- behind set(l) -/
def FullT (w : World) (s : Shared) (ks : List Str) (s₂ : Shared) : Prop := ∃ h' tk L, s₂ = { s with heap := h', toks := tk } ∧ SetS w h' s.heap.objs.size L ∧ (∀ z, z ∈ L ↔ z ∈ ks) ∧ ∀ b o, s.heap.get? b = some o → h'.get? b = some o
theorem call_setT {l : Addr} {items : Array Value} {ks : List Str} {Q : Value → Shared → Prop} (hh : A.handled = none) (hl : s.heap.IsList l items) (hit : ∃ us, items.toList = us ∧ Vals (ks.map V.str) us) (few : FewT ks)
    (q : ∀ s₂, FullT w s ks s₂ → Q (.ref s.heap.objs.size) s₂) : wpAny (model P w) A (call (.type "set") [.ref l]) Q E s := by
  have K := F.called_set
  obtain ⟨c, tl, hmro⟩ := K.mro
  have m1 := K.made
  have m2 := K.sub
  have m3 := K.notType
  have m4 := K.canCreate
  have m5 := F.typeCall_set_1 (.ref l)
  refine wpAny_call (codeAny_of_tree (show wpAny _ _ (callAny (.type "set") _) _ _ _ from wpAny_pure ⟨Code.quiet_builtin _ (by decide +kernel), codeAny_builtin F.entry_type_call ?_⟩))
  rw [Around.under_plain (weight_type_call_type "set" [.ref l] []) rfl]
  repeat (any_goals (first | assumption | wp_step))
  refine codeAny_mono (code_set_led1 (.ref l) (E := E) (Q₁ := fun u s₁ => u = .ref s.heap.objs.size ∧ s₁ = SI.made w s) ⟨rfl, rfl⟩) fun r s₁ hr => ?_
  rcases r with e | fl
  · exact hr
  cases fl with
  | ret u =>
    obtain ⟨rfl, rfl⟩ := hr
    have hS := SI.at_made (w := w) (s := s)
    have hT : Shared.TypeIs (SI.made w s) (.ref s.heap.objs.size) "set" := ⟨_, hS, rfl⟩
    have m6 := K.init.lookup
    have m7 := K.init.bind (.ref s.heap.objs.size)
    repeat (any_goals (first | assumption | wp_step))
    refine codeAny_mono (codeAny_call_builtin (R := wants (fun r s₂ => r = .none ∧ FullT w s ks s₂) E) K.init.plain F.entry_set_init (check_set_init_1 hT ?_)) fun r₂ s₂ hr₂ => ?_
    · obtain ⟨us, eus, rv⟩ := hit
      have hlen : items.size = ks.length := by
        have z := rv.length
        rw [List.length_map] at z
        rw [z, ← eus, Array.length_toList]
      obtain ⟨⟨oc, od, ot, os⟩, hol, hcl, nl, hdl⟩ := hl
      simp only at hcl hdl
      subst hcl
      subst hdl
      have hlS : l < s.heap.objs.size := Heap.lt_size hol
      have hl1 : (SI.made w s).heap.IsList l items := ⟨_, Heap.get?_push_of_some _ hol, rfl, nl, rfl⟩
      have hol' : (SI.made w s).heap.get? l = some { cls := .type "list", dict := od, data := .seq items nl, slots := os } := Heap.get?_push_of_some _ hol
      have m8 := F.sub_list_set
      have m9 := F.sub_list_frozenset
      have m10 : (Value.type "list" == Value.type "dict") = false := by decide
      unfold Builtin.«set.__init__» noKeywords Builtin.Frozenset.updateFrom
      generalize hPI : pyIter = PI
      wp_walk
      subst hPI
      refine wpAny_pyIter_list hl1 (wpAny_bind (wpAny_runValue ?_))
      have hn : (SI.made w s).heap.objs.size = s.heap.objs.size + 1 := Heap.size_push ..
      have far : s.heap.objs.size ∉ [(SI.made w s).heap.objs.size, l] := by
        rw [hn]
        simp only [List.mem_cons, List.not_mem_nil, or_false, not_or]
        exact ⟨Nat.ne_of_lt (Nat.lt_succ_self _), Nat.ne_of_gt hlS⟩
      have new : SetS w (SI.made w s).heap s.heap.objs.size [] := TX.fresh w
      refine text_loop ((Walks.list (A := A.in1.in1.in1) (by simp [hh]) _ l (by rw [hn]; exact Nat.ne_of_lt (Nat.lt_succ_of_lt hlS)) items).toS) s.heap.objs.size far ks hlen few (fun i v hv => ?_) (items.size - 0) 0 _ (by omega) (Nat.zero_le _)
        ⟨⟨_, Heap.get?_push_size _ rfl, rfl, rfl⟩, hl1.push _⟩ ⟨[], new.keep fun o e => Heap.get?_push_of_some _ e, fun z => by rw [List.take_zero]⟩ ?_
      · have z : us[i]? = some v := by rw [← eus, Array.getElem?_toList]; exact hv
        cases e : ks[i]? with
        | none =>
          have lz := List.getElem?_eq_none_iff.mp e
          have ly := rv.length
          rw [List.length_map] at ly
          rw [List.getElem?_eq_none (by omega)] at z
          cases z
        | some x =>
          obtain ⟨u, hu, ru⟩ := Vals.get rv (show (ks.map V.str)[i]? = some (.str x) by rw [List.getElem?_map, e]; rfl)
          obtain ⟨t, et⟩ := ru
          rw [z] at hu
          cases hu
          exact ⟨x, t, rfl, et⟩
      · intro s' L hm hS' g'
        obtain ⟨h', g2, d', tk', os'⟩ := s'
        obtain rfl : g2 = s.gens := hm.gens
        obtain rfl : d' = s.drawn := hm.drawn
        obtain rfl : os' = s.os := hm.os
        show wpAny _ _ _ _ _ _
        refine wpAny_pure (show wpAny _ _ (ret Value.none) _ _ _ from wpAny_pure ⟨rfl, h', tk', L, rfl, hS', g', fun b o e => hm.heap b o ?_ (Heap.get?_push_of_some _ (Heap.get?_push_of_some _ e))⟩)
        have hb0 : b < s.heap.objs.size := Heap.lt_size e
        rw [hn]
        simp only [List.mem_cons, List.not_mem_nil, or_false, not_or]
        exact ⟨Nat.ne_of_lt hb0, Nat.ne_of_lt (Nat.lt_succ_of_lt hb0)⟩
    · rcases r₂ with e | fl
      · exact hr₂
      cases fl with
      | ret u =>
        obtain ⟨rfl, hF⟩ := hr₂
        repeat (any_goals (first | assumption | wp_step))
        exact q _ hF
      | _ => exact hr₂.elim
  | _ => exact hr.elim
end
section
variable {X : Cx}
/-- set(xs), xs a list of texts -/
def rSetT (w : World) (K : PySem.W.Frag) : List V → Hp → VK → Prop := fun xs H Q => ∃ (l : Addr) (ks : List Str), xs = [V.ref l] ∧ SqL K H l (ks.map V.str) ∧ FewT ks ∧
  ∀ a L, H a = none → L.Nodup → (∀ z, z ∈ L ↔ z ∈ ks) → Q (.ref a) (upd H a (SetSO w a L))
theorem cr_setT (hc : X.calm = true) : CallR X (.type "set") (rSetT X.w X.K) := by
  intro pins s σ H xs us Q I r h
  obtain ⟨l, ks, rfl, hl, few, q⟩ := h
  rw [Vals.ref1 r]
  obtain ⟨its, rv, pl, sz⟩ := I.list hl
  refine call_setT (ks := ks) (I.ok.hd hc) pl.isList ⟨its, by simp, rv⟩ few fun s₂ ⟨h', tk, L, e, S, g, k⟩ => ?_
  subst e
  exact ⟨.ref s.heap.objs.size, upd H s.heap.objs.size (SetSO X.w s.heap.objs.size L), I.laid (t' := tk) k (Nat.le_refl _) (so_new S), rfl, q _ L (I.hok.fresh (Nat.le_refl _)) (setS_nd S) g⟩
end
end UA

/-! == of a tuple, of a list, whatever they hold, with the empty one -/
namespace ZE
open PySem PySem.Spec PyProof.Rows L2 GR
def rT0 (K : PySem.W.Frag) : R2 := fun x y H Q => ∃ (a b : Addr) (xs : List V), x = .ref a ∧ y = .ref b ∧ SqT K H a xs ∧ SqT K H b [] ∧ Q (.bl xs.isEmpty) H
def rL0 (K : PySem.W.Frag) : R2 := fun x y H Q => ∃ (a b : Addr) (xs : List V), x = .ref a ∧ y = .ref b ∧ SqL K H a xs ∧ SqL K H b [] ∧ Q (.bl xs.isEmpty) H
section
variable {X : Cx}
theorem empty_size {its : List Value} {xs : List V} (r : Vals xs its) : (its.toArray.size == 0) = xs.isEmpty := by
  cases r <;> rfl
theorem op_eqT0 (hu : X.A.units < cLine) : OpR X (compareOp .Eq) (rT0 X.K) := by
  intro pins s σ H x y v u Q I rx ry h
  obtain ⟨a, b, xs, rfl, rfl, ha, hb, q⟩ := h
  cases rx
  cases ry
  obtain ⟨its, rv, pt, hz⟩ := I.tuple ha
  obtain ⟨its2, rv2, pt2, hz2⟩ := I.tuple hb
  cases rv2
  refine SeqAt.eq_tupleAt (e := fun _ => true) pt pt2 hu (fun j h1 h2 => absurd h2 (Nat.not_lt_zero _)) ?_
  refine ⟨.bl xs.isEmpty, H, I, ?_, q⟩
  show Value.bool _ = Value.bool _
  rw [← empty_size rv]
  simp
theorem op_eqL0 (hu : X.A.units < cLine) : OpR X (compareOp .Eq) (rL0 X.K) := by
  intro pins s σ H x y v u Q I rx ry h
  obtain ⟨a, b, xs, rfl, rfl, ha, hb, q⟩ := h
  cases rx
  cases ry
  obtain ⟨its, rv, pl, hz⟩ := I.list ha
  obtain ⟨its2, rv2, pl2, hz2⟩ := I.list hb
  cases rv2
  cases rv with
  | nil => exact SeqAt.eq_listAt (e := fun _ => true) pl.isList pl2.isList rfl hu (fun j h1 h2 => absurd h2 (Nat.not_lt_zero _)) ⟨.bl true, H, I, rfl, q⟩
  | cons r t => exact SeqAt.eq_list_lengthsAt pl.isList pl2.isList (by simp) hu ⟨.bl false, H, I, rfl, q⟩
end
end ZE

/-! != of a list, whatever it holds, with the empty one -/
namespace ZE
open PySem PySem.Spec PyProof.Rows L2 GR
def rNL0 (K : PySem.W.Frag) : R2 := fun x y H Q => ∃ (a b : Addr) (xs : List V), x = .ref a ∧ y = .ref b ∧ SqL K H a xs ∧ SqL K H b [] ∧ Q (.bl (!xs.isEmpty)) H
section
variable {X : Cx}
theorem op_neL0 (hu : X.A.units < cLine) : OpR X (compareOp .NotEq) (rNL0 X.K) := by
  intro pins s σ H x y v u Q I rx ry h
  obtain ⟨a, b, xs, rfl, rfl, ha, hb, q⟩ := h
  cases rx
  cases ry
  obtain ⟨its, rv, pl, hz⟩ := I.list ha
  obtain ⟨its2, rv2, pl2, hz2⟩ := I.list hb
  cases rv2
  cases rv with
  | nil => exact SeqAt.RcNeAt.lists (e := fun _ => true) pl.isList pl2.isList rfl hu (fun j h1 h2 => absurd h2 (Nat.not_lt_zero _)) _ _ _ _ ⟨.bl false, H, I, rfl, q⟩
  | cons r t => exact SeqAt.RcNeAt.lists_lengths pl.isList pl2.isList (by simp) hu _ _ _ _ ⟨.bl true, H, I, rfl, q⟩
end
end ZE

namespace K5
open PySem PySem.Spec PyProof.Rows L2 GR WX TX UA
theorem dpAll_split {K : PySem.W.Frag} {H : Hp} : ∀ {a b : List V} {ds : List PyData}, DpAll K H (a ++ b) ds → ∃ d1 d2, ds = d1 ++ d2 ∧ DpAll K H a d1 ∧ DpAll K H b d2
  | [], b, ds, h => ⟨[], ds, rfl, .nil, h⟩
  | v :: a, b, ds, h => by
    cases h with
    | cons h1 h2 =>
    obtain ⟨d1, d2, rfl, g1, g2⟩ := dpAll_split h2
    exact ⟨_ :: d1, d2, rfl, .cons h1 g1, g2⟩
theorem dpAll_last {K : PySem.W.Frag} {H : Hp} {us : List V} {xs : List PyData} (h : DpAll K H us xs) (hne : us ≠ []) : ∃ y d xs', xs = xs' ++ [d] ∧ us[us.length - 1]? = some y ∧ DpAll K H us.dropLast xs' ∧ Dp K H y d := by
  have e := List.dropLast_concat_getLast hne
  rw [← e] at h
  obtain ⟨d1, d2, rfl, g1, g2⟩ := dpAll_split h
  cases g2 with
  | cons g3 g4 =>
  cases g4
  refine ⟨us.getLast hne, _, d1, rfl, ?_, g1, g3⟩
  rw [← List.getLast?_eq_getElem?, List.getLast?_eq_getLast hne]
/-- what was noted: names, columns -/
structure Noted (H : Hp) (nm cl : Addr) (ns : List Str) (ps : PL) : Prop where
  nm : H nm = some (.lst (ns.map V.str))
  cl : H cl = some (.lst (ps.map fun p => V.ref p.1))
  at_ : ∀ p, p ∈ ps → H p.1 = some (.tup [.str p.2.1, .str p.2.2])
theorem Noted.keep {H H' : Hp} {nm cl : Addr} {ns : List Str} {ps : PL} (N : Noted H nm cl ns ps) (s : Same H H') : Noted H' nm cl ns ps := ⟨s _ _ N.nm, s _ _ N.cl, fun p hp => s _ _ (N.at_ p hp)⟩
theorem Noted.lst {H : Hp} {nm cl lf : Addr} {ns : List Str} {ps : PL} {us vs : List V} (N : Noted H nm cl ns ps) (h1 : nm ≠ lf) (h2 : cl ≠ lf) (hl : H lf = some (.lst us)) : Noted (upd H lf (.lst vs)) nm cl ns ps :=
  ⟨by rw [upd_ne h1]; exact N.nm, by rw [upd_ne h2]; exact N.cl, fun p hp => by rw [upd_ne (fun z => by have y := N.at_ p hp; rw [z, hl] at y; cases y)]; exact N.at_ p hp⟩
theorem Noted.name {H : Hp} {nm cl : Addr} {ns : List Str} {ps : PL} (N : Noted H nm cl ns ps) (ne : nm ≠ cl) (z : Str) : Noted (upd H nm (.lst (ns.map V.str ++ [.str z]))) nm cl (ns ++ [z]) ps :=
  ⟨by rw [upd_same, List.map_append]; rfl, by rw [upd_ne ne.symm]; exact N.cl, fun p hp => by rw [upd_ne (fun z => by have y := N.at_ p hp; rw [z, N.nm] at y; cases y)]; exact N.at_ p hp⟩
theorem Noted.col {H : Hp} {nm cl b : Addr} {ns : List Str} {ps : PL} {d : Pr} (N : Noted H nm cl ns ps) (ne : nm ≠ cl) (hb : H b = some (.tup [.str d.1, .str d.2])) : Noted (upd H cl (.lst ((ps.map fun p => V.ref p.1) ++ [.ref b]))) nm cl ns (ps ++ [(b, d)]) := by
  refine ⟨by rw [upd_ne ne]; exact N.nm, by rw [upd_same, List.map_append]; rfl, fun p hp => ?_⟩
  have e : H p.1 = some (.tup [.str p.2.1, .str p.2.2]) := by
    rcases List.mem_append.mp hp with hp | hp
    · exact N.at_ p hp
    · rw [List.mem_singleton.mp hp]
      exact hb
  rw [upd_ne (fun z => by rw [z, N.cl] at e; cases e)]
  exact e
theorem kept_one {H H' : Hp} {a : Addr} {xs : List V} (h : H a = some (.lst xs)) (k : ∀ c ob, c ≠ a → H c = some ob → H' c = some ob) : KeepT H H' :=
  ⟨fun b us e => k _ _ (ne_of e h (fun z => by cases z)) e, fun b o us e => k _ _ (ne_of e h (fun z => by cases z)) e⟩
theorem nodup_leD {α : Type} [DecidableEq α] {l m : List α} (h : l.Nodup) (s : ∀ z, z ∈ l → z ∈ m) : l.length ≤ m.length := @nodup_le' α instBEqOfDecidableEq inferInstance l m h s
theorem lift_keys {ps : PL} : ∀ {L : List (Addr × TKey)}, (∀ p, p ∈ L → p ∈ ps.map fun p => (p.1, pk p.2)) → ∃ ps2 : PL, L = ps2.map (fun p => (p.1, pk p.2)) ∧ ∀ p, p ∈ ps2 → p ∈ ps
  | [], _ => ⟨[], rfl, fun p hp => nomatch hp⟩
  | p :: L, h => by
    obtain ⟨ps2, e, h2⟩ := lift_keys fun q hq => h q (List.mem_cons_of_mem _ hq)
    obtain ⟨p0, h0, rfl⟩ := List.mem_map.mp (h p List.mem_cons_self)
    refine ⟨p0 :: ps2, by rw [e]; rfl, fun q hq => ?_⟩
    rcases List.mem_cons.mp hq with rfl | hq
    · exact h0
    · exact h2 q hq
theorem vars_flat {n : Nat} {x : PyData} (z : Str) : z ∈ vars (flatP n x) ↔ z ∈ vars (lvls n [x]) := ((lvls_flat n x).filterMap _).mem_iff.symm
theorem cols_flat {n : Nat} {x : PyData} (z : Pr) : z ∈ cols (flatP n x) ↔ z ∈ cols (lvls n [x]) := ((lvls_flat n x).filterMap _).mem_iff.symm
section
variable {P : Program} {w : World} {K : PySem.W.Frag} {mg : Str → Option Value} {base : Heap}
abbrev s_law_due : Stmt := topS 22
abbrev N_due : List Str := ["_law_thing", "_law_left", "_law_many", "_law_deep", "_law_names_here", "_law_columns", "_law_here", "_law_at", "_law_one"]
theorem sc_law_due : FnScope N_due ["_law_thing"] (defScope s_law_due) := ⟨rfl, rfl, rfl, by decide +kernel, rfl, by decide +kernel, by decide +kernel⟩
/-- before each turn -/
def DInv (K : PySem.W.Frag) (zs : List Str) (n : Nat) (x : PyData) (v : V) (H0 : Hp) (m : Nat) (σ : L2.St) (H : Hp) : Prop :=
  ∃ (lf nm cl : Addr) (many deep : Nat) (z6 z7 z8 : Option V) (us : List V) (es : List Ent) (ns : List Str) (ps : PL),
    σ = [some v, some (.ref lf), some (.int (many : Int)), some (.int (deep : Int)), some (.ref nm), some (.ref cl), z6, z7, z8] ∧ H lf = some (.lst us) ∧ Noted H nm cl ns ps ∧ (H0 lf = none ∧ H0 nm = none ∧ H0 cl = none) ∧ (nm ≠ lf ∧ cl ≠ lf ∧ nm ≠ cl) ∧
    DpAll K H us (es.map entD) ∧ (∀ e, e ∈ es → Ex zs n e.1) ∧ m = (partsE n es).length ∧ many + m = (flatP n x).length ∧ max deep (deepE n es) = dpt n x ∧ ns.length ≤ many ∧ ps.length ≤ many ∧
    (∀ z, (z ∈ ns ∨ z ∈ vars (partsE n es)) ↔ z ∈ vars (flatP n x)) ∧ (∀ z, (z ∈ ps.map (·.2) ∨ z ∈ cols (partsE n es)) ↔ z ∈ cols (flatP n x)) ∧ ∀ b ob, b ≠ lf → b ≠ nm → b ≠ cl → H0 b = some ob → H b = some ob
theorem ok_due {f fw : Addr} {fd fdw : FuncData} {k : Nat} (F : Fun K "_law_due" "_law_due" s_law_due f fd) (Gw : FnOk P w K mg base CX0 k fw fdw ["_law_thing"] (sp_inside K)) (gw : mg "_law_inside" = some (.ref fw)) (Kw : PySem.W.keepIn K (.ref fw) = true) (bw : Binds K fdw ["_law_thing"] [])
    (mmax : mg "max" = none) (msorted : mg "sorted" = none) (mtuple : mg "tuple" = none) (mset : mg "set" = none) : FnOk P w K mg base CX0 (k + 1) f fd ["_law_thing"] (sp_ans K) := by
  have nd := sc_law_due.nd
  refine F.ok sc_law_due (fun vs H Q E h => ?_) (fun cdv A outer s H vs Q E hr h => ?_)
  · obtain ⟨v, x, zs, n, rfl, _⟩ := h
    rfl
  obtain ⟨v, x, zs, n, rfl, hd, he, hb, h7, hi, q⟩ := h
  have hu0 : (A.deeper (envOfC "_law_due" (defScope s_law_due) s.heap.objs.size f cdv)).units < cLine := by
    have := hr.units
    omega
  have hu3 : (A.deeper (envOfC "_law_due" (defScope s_law_due) s.heap.objs.size f cdv)).units + 3 < cLine := by
    have := hr.units
    omega
  refine ⟨_, (pss_cons (ps_asg (pe_tup (pa_cons (pe_lst (pa_cons (pe_tup (pa_cons (pv 0) (pa_cons pe_int pa_nil))) pa_nil)) (pa_cons pe_int (pa_cons pe_int (pa_cons (pe_lst pa_nil) (pa_cons (pe_lst pa_nil) pa_nil)))))) (pg_tup rfl (pgs_cons (pg_name (i := 1) nd rfl (Or.inl rfl)) (pgs_cons (pg_name (i := 2) nd rfl (Or.inl rfl)) (pgs_cons (pg_name (i := 3) nd rfl (Or.inl rfl)) (pgs_cons (pg_name (i := 4) nd rfl (Or.inl rfl)) (pgs_cons (pg_name (i := 5) nd rfl (Or.inl rfl)) pgs_nil)))))))
      (pss_cons (ps_while PassesOwn.never (pt_cmpR (ZE.op_neL0 hu0) (pv 1) (pe_lst pa_nil) (nomark _))
      (pss_cons (ps_asg (pe_bm0 PySem.F.plainAttrs_list PySem.F.slot_list_pop PySem.F.type_list_pop mt_pop (pv 1)) (pg_tup rfl (pgs_cons (pg_name (i := 6) nd rfl (Or.inl rfl)) (pgs_cons (pg_name (i := 7) nd rfl (Or.inr rfl)) pgs_nil))))
        (pss_cons (ps_par (i := 2) (j := 3) rfl nd rfl rfl (by decide) rfl rfl (pa_cons (pe_op op_add (pv 2) pe_int) (pa_cons (pe_callB (call_max2 rfl) (by rfl) mmax boot_max (pa_cons (pv 3) (pa_cons (pv 7) pa_nil))) pa_nil)) (by rfl))
        (Evl.pss_cut (ps_if (pt_cmpR op_eq (pe_ix ix_tup (pv 6) pe_int (fun _ _ => rfl)) pe_str (nomark _))
        (pss_one (ps_expr (pe_bm PySem.F.plainAttrs_list PySem.F.slot_list_append PySem.F.type_list_append mt_append (pv 4) (pa_cons (pe_ix ix_tup (pv 6) pe_int (fun _ _ => rfl)) pa_nil))))
        pss_nil)
        (Evl.pss_cut (ps_if (pt_cmpR op_eq (pe_ix ix_tup (pv 6) pe_int (fun _ _ => rfl)) pe_str (nomark _))
        (pss_one (ps_expr (pe_bm PySem.F.plainAttrs_list PySem.F.slot_list_append PySem.F.type_list_append mt_append (pv 5) (pa_cons (pe_tup (pa_cons (pe_ix ix_tup (pv 6) pe_int (fun _ _ => rfl)) (pa_cons (pe_ix ix_tup (pv 6) pe_int (fun _ _ => rfl)) pa_nil))) pa_nil))))
        pss_nil)
        (Evl.pss_cut (ps_if (pt_cmpR op_in_seq (pe_ix ix_tup (pv 6) pe_int (fun _ _ => rfl)) (pe_tup (pa_cons pe_str (pa_cons pe_str (pa_cons pe_str (pa_cons pe_str pa_nil))))) (by rfl))
        (pss_one (ps_expr (pe_bm PySem.F.plainAttrs_list PySem.F.slot_list_append PySem.F.type_list_append mt_append (pv 5) (pa_cons (pe_tup (pa_cons (pe_ix ix_tup (pv 6) pe_int (fun _ _ => rfl)) (pa_cons pe_str pa_nil))) pa_nil))))
        pss_nil)
        (pss_one (ps_expr (pe_bm PySem.F.plainAttrs_list PySem.F.slot_list_extend PySem.F.type_list_extend mt_extend (pv 1) (pa_cons (pe_lc (own := [("_law_one", 8)]) rfl nd (pi_list (pe_call Gw hr (by rfl) gw Kw bw .nil pass0 (pa_cons (pv 6) pa_nil))) (blkOk_by (N := N_due) (sc := defScope s_law_due) (by decide +kernel)) (fun _ _ _ _ _ => (pg_name (i := 8) nd rfl (Or.inl rfl))) (fun _ _ _ _ _ => pts_nil) (fun _ _ _ _ _ => (pe_tup (pa_cons (pv 8) (pa_cons (pe_op op_add (pv 7) pe_int) pa_nil))))) pa_nil))))))))))
      (pss_one (ps_ret (pe_tup (pa_cons (pv 2) (pa_cons (pv 3) (pa_cons (pe_callTy call_tuple_of (by rfl) mtuple boot_tuple (pa_cons (pe_callB (cr_sortedSS rfl) (by rfl) msorted boot_sorted (pa_cons (pe_callTy (cr_setT rfl) (by rfl) mset boot_set (pa_cons (pv 4) pa_nil)) pa_nil)) pa_nil)) (pa_cons (pe_callTy call_tuple_of (by rfl) mtuple boot_tuple (pa_cons (pe_callB (cr_sortU rfl) (by rfl) msorted boot_sorted (pa_cons (pe_callTy (cr_setU rfl hu3) (by rfl) mset boot_set (pa_cons (pv 5) pa_nil)) pa_nil)) pa_nil)) pa_nil))))))))), ?_⟩
  refine ⟨v, rfl, le2, fun tt ntt => ⟨small_le (show 1 ≤ 1000 by decide), fun lf nlf => ⟨Nat.zero_le _, fun nm nnm => ⟨Nat.zero_le _, fun cl ncl => ⟨small_le (show 5 ≤ 1000 by decide), fun tp ntp => ?_⟩⟩⟩⟩⟩
  have s1 := same_upd (o := .tup [v, .int 1]) ntt
  have s2 := same_upd (o := .lst [.ref tt]) nlf
  have s3 := same_upd (o := .lst []) nnm
  have s4 := same_upd (o := .lst []) ncl
  have s5 := same_upd (o := .tup [.ref lf, .int 0, .int 0, .ref nm, .ref cl]) ntp
  have s35 := (s3.trans s4).trans s5
  have hlf := s35 _ _ (show upd (upd H tt (.tup [v, .int 1])) lf (.lst [.ref tt]) lf = _ from upd_same)
  have htt := s35 _ _ (s2 _ _ (show upd H tt (.tup [v, .int 1]) tt = _ from upd_same))
  have hnm := (s4.trans s5) _ _ (show upd (upd (upd H tt (.tup [v, .int 1])) lf (.lst [.ref tt])) nm (.lst []) nm = _ from upd_same)
  have hcl := s5 _ _ (show upd (upd (upd (upd H tt (.tup [v, .int 1])) lf (.lst [.ref tt])) nm (.lst [])) cl (.lst []) cl = _ from upd_same)
  have s15 := (s1.trans s2).trans s35
  have n1 := s1.free nlf
  have n2 := (s1.trans s2).free nnm
  have n3 := ((s1.trans s2).trans s3).free ncl
  have e1 : nm ≠ lf := (ne_of_none (show upd (upd H tt (.tup [v, .int 1])) lf (.lst [.ref tt]) lf = _ from upd_same) nnm).symm
  have e2 : cl ≠ lf := (ne_of_none (s3 _ _ (show upd (upd H tt (.tup [v, .int 1])) lf (.lst [.ref tt]) lf = _ from upd_same)) ncl).symm
  have e3 : nm ≠ cl := ne_of_none (show upd (upd (upd H tt (.tup [v, .int 1])) lf (.lst [.ref tt])) nm (.lst []) nm = _ from upd_same) ncl
  have p0 : partsE n [(x, 0)] = flatP n x := by
    unfold partsE
    rw [List.flatMap_cons, List.flatMap_nil, List.append_nil]
  refine ⟨tp, [.ref lf, .int 0, .int 0, .ref nm, .ref cl], rfl, .inl (.inl upd_same), rfl, _, _, rfl, _, _, rfl, _, _, rfl, _, _, rfl, _, _, rfl, rfl, ?_⟩
  refine ⟨DInv K zs n x v H, ⟨(flatP n x).length, lf, nm, cl, 0, 0, none, none, none, [.ref tt], [(x, 0)], [], [], rfl, hlf, ⟨hnm, hcl, fun p hp => nomatch hp⟩, ⟨n1, n2, n3⟩, ⟨e1, e2, e3⟩, .cons (.tup (.inl (.inl htt)) (.cons (he.kept (KeepT.of s15) hd) (.cons (.int _) .nil))) .nil, ?_, ?_, ?_, ?_, Nat.le_refl _, Nat.le_refl _, fun z => ?_, fun z => ?_, fun b ob _ _ _ e => s15 _ _ e⟩, ?_⟩
  · intro e he'
    rw [List.mem_singleton.mp he']
    exact he
  · rw [p0]
  · rw [Nat.zero_add]
  · show max 0 (max (0 + dpt n x) 0) = _
    omega
  · rw [p0]
    exact ⟨fun h => h.elim (fun h => nomatch h) id, .inr⟩
  · rw [p0]
    exact ⟨fun h => h.elim (fun h => nomatch h) id, .inr⟩
  · rintro m σ H' ⟨lf, nm, cl, many, deep, z6, z7, z8, us, es, ns, ps, rfl, hus, N, ⟨n1, n2, n3⟩, ⟨e1, e2, e3⟩, hU, hE, rfl, hm, hdp, ln, lp, hn, hp, kk⟩
    have lU := dpAll_len hU
    rw [List.length_map] at lU
    refine ⟨.ref lf, rfl, Nat.zero_le _, fun em nem => ?_⟩
    have se := same_upd (o := .lst []) nem
    refine ⟨lf, em, us, rfl, rfl, .inl (.inl (se _ _ hus)), .inl (.inl upd_same), _, rfl, ?_⟩
    have fes : flatDs (es.map entD) = true := flatDs_of fun d hd => by
      obtain ⟨e, he', rfl⟩ := List.mem_map.mp hd
      exact flat_ent (hE e he')
    have hus1 := se _ _ hus
    have N1 := N.keep se
    have hU1 := dp_keepAll (KeepT.of se) _ _ fes hU
    have keep1 : ∀ b ob, b ≠ lf → b ≠ nm → b ≠ cl → H b = some ob → upd H' em (.lst []) b = some ob := fun b ob h1 h2 h3 e => se _ _ (kk b ob h1 h2 h3 e)
    revert hus1 N1 hU1 keep1
    generalize upd H' em (.lst []) = H1
    intro hus1 N1 hU1 keep1
    have sH1 : Same H H1 := fun b ob e => keep1 b ob (ne_of_none e n1) (ne_of_none e n2) (ne_of_none e n3) e
    by_cases hes : es = []
    · subst hes
      have hus0 : us = [] := List.eq_nil_of_length_eq_zero lU
      subst hus0
      refine iteF ?_
      have hx1 : ∀ y, y ∈ [x] → Ex zs n y := fun y hy => by
        rw [List.mem_singleton.mp hy]
        exact he
      have hE := lvls_ex hx1
      have hn' : ∀ z, z ∈ ns ↔ z ∈ vars (lvls n [x]) := fun z => by
        rw [← vars_flat, ← hn z]
        exact ⟨.inl, fun h => h.elim id fun h => nomatch h⟩
      have hp' : ∀ z, z ∈ ps.map (·.2) ↔ z ∈ cols (lvls n [x]) := fun z => by
        rw [← cols_flat, ← hp z]
        exact ⟨.inl, fun h => h.elim id fun h => nomatch h⟩
      have hmany : (many : Int) = ((lvls n [x]).length : Int) := by
        rw [(lvls_flat n x).length_eq, ← hm]
        rfl
      have hdeep : (deep : Int) = (deepN n [x] : Int) := by
        rw [deepN_one, ← hdp]
        show (deep : Int) = ((max deep 0 : Nat) : Int)
        rw [Nat.max_zero]
      have few : FewT ns := fun M hM hs => by
        have := nodup_le (m := zs) hM fun z hz => vars_in hE z ((hn' z).mp (hs z hz))
        omega
      have fewP : Few (ps.map fun p => (p.1, pk p.2)) := fun M hM hs => by
        have h1 := nodup_leD (m := (pairsOn zs).map pk) hM fun k hk => by
          obtain ⟨p, hp0, rfl⟩ := List.mem_map.mp (hs k hk)
          obtain ⟨p1, hp1, rfl⟩ := List.mem_map.mp hp0
          exact List.mem_map.mpr ⟨p1.2, cols_in hi hE _ ((hp' _).mp (List.mem_map.mpr ⟨p1, hp1, rfl⟩)), rfl⟩
        rw [List.length_map, pairsOn_len] at h1
        have h2 : zs.length * zs.length ≤ 7 * 7 := Nat.mul_le_mul h7 h7
        omega
      refine ⟨_, rfl, _, rfl, .ref nm, rfl, nm, ns, rfl, .inl (.inl N1.nm), few, fun a L na ndL mL => ?_⟩
      have sa := same_upd (o := SetSO w a L) na
      have l64 : L.length < 64 := by
        have := nodup_le (m := zs) ndL fun z hz => vars_in hE z ((hn' z).mp ((mL z).mp hz))
        omega
      refine ⟨a, L, rfl, upd_same, l64, fun ys p pm so np => ?_⟩
      have sp := same_upd (o := .lst (ys.map V.str)) np
      refine ⟨p, ys.map V.str, rfl, .inl ⟨.inl (.inl upd_same), fun t nt => ?_⟩⟩
      have st := same_upd (o := .tup (ys.map V.str)) nt
      have s12 := (sa.trans sp).trans st
      have ht : upd (upd (upd H1 a (SetSO w a L)) p (.lst (ys.map V.str))) t (.tup (ys.map V.str)) t = some (.tup (ys.map V.str)) := upd_same
      have N2 := N1.keep s12
      refine ⟨.ref cl, rfl, cl, ps.map fun p => (p.1, pk p.2), rfl, .inl (.inl ?_), fun p hp0 => ?_, fewP, fun b L2 nb fr ndL2 => ?_⟩
      · rw [List.map_map]
        exact N2.cl
      · obtain ⟨p1, hp1, rfl⟩ := List.mem_map.mp hp0
        exact N2.at_ p1 hp1
      have sb := same_upd (o := SetUO P w b L2) nb
      obtain ⟨ps2, rfl, hps2⟩ := lift_keys (ps := ps) (L := L2) fun p hp0 => List.mem_of_mem_take (fr.1 p hp0)
      have N3 := N2.keep sb
      refine ⟨b, _, ps2, rfl, upd_same, rfl, fun p hp0 => N3.at_ p (hps2 p hp0), fun qs l nl pm2 up => ?_⟩
      have sl := same_upd (o := .lst (qs.map fun p => V.ref p.1)) nl
      refine ⟨l, qs.map fun p => V.ref p.1, rfl, .inl ⟨.inl (.inl upd_same), fun t2 nt2 => ?_⟩⟩
      have st2 := same_upd (o := .tup (qs.map fun p => V.ref p.1)) nt2
      have s23 := (sb.trans sl).trans st2
      have N4 := N2.keep s23
      refine ⟨small_le (show 4 ≤ 1000 by decide), fun r nr => ?_⟩
      have sr := same_upd (o := .tup [.int (many : Int), .int (deep : Int), .ref t, .ref t2]) nr
      have s13 := sH1.trans (s12.trans s23)
      have hA : Ans n x ys (qs.map (·.2)) := by
        refine ⟨pm.nodup_iff.mpr ndL, so, fun z => by rw [pm.mem_iff, mL z]; exact hn' z, up, fun z => ?_⟩
        rw [(pm2.map (·.2)).mem_iff, ← hp' z]
        constructor
        · intro h
          obtain ⟨p, hp0, rfl⟩ := List.mem_map.mp h
          exact List.mem_map.mpr ⟨p, hps2 p hp0, rfl⟩
        · intro h
          obtain ⟨p, hp0, rfl⟩ := List.mem_map.mp h
          have z := fr.2 (p.1, pk p.2) (by rw [List.take_length]; exact List.mem_map.mpr ⟨p, hp0, rfl⟩)
          rw [List.map_map] at z
          obtain ⟨p2, hp2, e⟩ := List.mem_map.mp z
          exact List.mem_map.mpr ⟨p2, hp2, pk_inj e⟩
      refine q _ r ys (qs.map (·.2)) (s13.trans sr) (s13.free nr) hA ?_
      unfold resD
      rw [← hmany, ← hdeep]
      exact .tup (.inl (.inl upd_same)) (.cons (.int _) (.cons (.int _) (.cons (dp_keep (KeepT.of (s23.trans sr)) _ _ (flat_names ys) (dp_names ht)) (.cons (dp_keep (KeepT.of sr) _ _ (flat_cols _) (dp_cols ⟨qs, upd_same, fun z hz => N4.at_ z (hps2 z (pm2.mem_iff.mp hz)), rfl⟩)) .nil))))
    · have hus0 : us ≠ [] := fun z => by
        rw [z] at lU
        exact hes (List.eq_nil_of_length_eq_zero lU.symm)
      have e0 : (!us.isEmpty) = true := by
        cases us with
        | nil => exact absurd rfl hus0
        | cons _ _ => rfl
      rw [e0]
      refine iteT ⟨fun σ' H'' => ∃ m', m' < (partsE n es).length ∧ DInv K zs n x v H m' σ' H'', fun _ _ h => h, ?_⟩
      obtain ⟨es', ⟨y, b⟩, rfl⟩ : ∃ es' e, es = es' ++ [e] := ⟨es.dropLast, es.getLast hes, (List.dropLast_concat_getLast hes).symm⟩
      obtain ⟨uy, d, xs', hsplit, huy, hU', hyd⟩ := dpAll_last hU1 hus0
      rw [List.map_append] at hsplit
      obtain ⟨h1, h2⟩ := List.append_inj' hsplit rfl
      have h2 : entD (y, b) = d := (List.cons.inj h2).1
      subst h1
      subst h2
      have ey : Ex zs n y := hE (y, b) (List.mem_append_right _ (List.mem_singleton.mpr rfl))
      have hE' : ∀ e, e ∈ es' → Ex zs n e.1 := fun e he' => hE e (List.mem_append_left _ he')
      have fes' : flatDs (es'.map entD) = true := flatDs_of fun d hd => by
        obtain ⟨e, he', rfl⟩ := List.mem_map.mp hd
        exact flat_ent (hE' e he')
      unfold entD at hyd
      cases hyd with
      | tup hS hB =>
      cases hB with
      | cons hv1 hB =>
      cases hB with
      | cons hv2 hB =>
      cases hB
      cases hv2
      rename_i tt2 v1
      have k2 : KeepT H1 (upd H1 lf (.lst us.dropLast)) := KeepT.lst hus1
      have hus2 : upd H1 lf (.lst us.dropLast) lf = some (.lst us.dropLast) := upd_same
      refine ⟨.ref lf, rfl, .inl ⟨rfl, _, .inl (.inl hus1)⟩, lf, us, .ref tt2, rfl, rfl, hus1, huy, tt2, [v1, .int ((b + 1 : Nat) : Int)], rfl, k2.seqt hS, rfl, _, _, rfl, _, _, rfl, rfl, ?_⟩
      have keep2 : ∀ c ob, c ≠ lf → c ≠ nm → c ≠ cl → H c = some ob → upd H1 lf (.lst us.dropLast) c = some ob := fun c ob h1 h2 h3 e => by
        rw [upd_ne h1]
        exact keep1 c ob h1 h2 h3 e
      have hU2 := dp_keepAll k2 _ _ fes' hU'
      have hy2 := ey.kept k2 hv1
      have N2 : Noted (upd H1 lf (.lst us.dropLast)) nm cl ns ps := N1.lst e1 e2 hus1
      revert hus2 keep2 hU2 hy2 N2
      generalize upd H1 lf (.lst us.dropLast) = H2
      intro hus2 keep2 hU2 hy2 N2
      refine ⟨_, rfl, (many : Int), 1, rfl, rfl, _, rfl, _, rfl, (deep : Int), ((b + 1 : Nat) : Int), rfl, _, _, rfl, ?_⟩
      have emany : (many : Int) + 1 = ((many + 1 : Nat) : Int) := rfl
      have edeep : (if ((b + 1 : Nat) : Int) > (deep : Int) then ((b + 1 : Nat) : Int) else (deep : Int)) = ((max deep (b + 1) : Nat) : Int) := by
        by_cases z : ((b + 1 : Nat) : Int) > (deep : Int)
        · rw [if_pos z]
          omega
        · rw [if_neg z]
          omega
      obtain ⟨wd, fs, rest, hform, hft, hff⟩ := ey.form
      have hy3 := hy2
      rw [hform] at hy3
      cases hy3 with
      | tup hS2 hB2 =>
      cases hB2 with
      | @cons vw vs1 dw ds1 hw2 hB2 =>
      cases hw2
      rename_i a1
      have sp : ps.length ≤ 2100000 := by omega
      have sn : ns.length ≤ 2100000 := by omega
      have z24 : sizeLine = 16777216 := sizeLine_eq
      have eσ : [some v, some (V.ref lf), some (V.int ((many : Int) + 1)), some (V.int (if ((b + 1 : Nat) : Int) > (deep : Int) then ((b + 1 : Nat) : Int) else (deep : Int))), some (V.ref nm), some (V.ref cl), some (V.ref a1), some (V.int ((b + 1 : Nat) : Int)), z8]
          = [some v, some (.ref lf), some (.int ((many + 1 : Nat) : Int)), some (.int ((max deep (b + 1) : Nat) : Int)), some (.ref nm), some (.ref cl), some (.ref a1), some (.int ((b + 1 : Nat) : Int)), z8] := by
        rw [edeep, emany]
      -- a name
      refine ⟨fun σ' H'' => σ' = [some v, some (.ref lf), some (.int ((many + 1 : Nat) : Int)), some (.int ((max deep (b + 1) : Nat) : Int)), some (.ref nm), some (.ref cl), some (.ref a1), some (.int ((b + 1 : Nat) : Int)), z8] ∧ Noted H'' nm cl (ns ++ (varName y).toList) ps ∧ ∀ c ob, c ≠ nm → H2 c = some ob → H'' c = some ob, ?_, ?_⟩
      · refine ⟨.ref a1, rfl, a1, _, 0, .str wd, rfl, rfl, hS2, at0, rfl, _, rfl, ite2 (fun c1 => ?_) (fun c1 => ?_)⟩
        · have c1 : wd = "var" := by simpa using c1
          subst c1
          have ey' := ey
          rw [hform] at ey'
          obtain ⟨z, _, rfl⟩ := ey'.var
          have ev : varName y = some z := by
            rw [hform]
            unfold varName
            simp
          cases hB2 with
          | cons g1 hB3 =>
          cases g1
          refine ⟨.ref nm, rfl, .inl ⟨rfl, _, .inl (.inl N2.nm)⟩, .ref a1, rfl, a1, _, 1, .str z, rfl, rfl, hS2, at1, nm, ns.map V.str, .str z, rfl, rfl, N2.nm, by rw [List.length_map]; omega, eσ, ?_, fun c ob h1 e => by rw [upd_ne h1]; exact e⟩
          rw [ev]
          exact N2.name e3 z
        · have c1 : wd ≠ "var" := fun z => c1 (by simpa using z)
          have ev : varName y = none := by
            rw [hform]
            exact varName_no c1
          refine ⟨eσ, ?_, fun c ob _ e => e⟩
          rw [ev]
          rw [show (none : Option Str).toList = [] from rfl, List.append_nil]
          exact N2
      rintro σ' H3 ⟨rfl, N3, k3⟩
      have t3 := kept_one N2.nm k3
      have hS3 := t3.seqt hS2
      have hus3 := k3 _ _ e1.symm hus2
      have fy := ey.flat
      rw [hform, flatD, flatDs, Bool.and_eq_true] at fy
      have hB3 := dp_keepAll t3 _ _ fy.2 hB2
      -- a cell's column
      refine ⟨fun σ' H'' => σ' = [some v, some (.ref lf), some (.int ((many + 1 : Nat) : Int)), some (.int ((max deep (b + 1) : Nat) : Int)), some (.ref nm), some (.ref cl), some (.ref a1), some (.int ((b + 1 : Nat) : Int)), z8] ∧
        (∃ ps1 : PL, Noted H'' nm cl (ns ++ (varName y).toList) ps1 ∧ ps1.map (·.2) = ps.map (·.2) ++ (if wd = "cell" then (colOf y).toList else [])) ∧ ∀ c ob, c ≠ cl → H3 c = some ob → H'' c = some ob, ?_, ?_⟩
      · refine ⟨.ref a1, rfl, a1, _, 0, .str wd, rfl, rfl, hS3, at0, rfl, _, rfl, ite2 (fun c1 => ?_) (fun c1 => ?_)⟩
        · have c1 : wd = "cell" := by simpa using c1
          subst c1
          have ey' := ey
          rw [hform] at ey'
          obtain ⟨_, t, z, x0, _, _, _, rfl, _⟩ := ey'.cell_of
          have ev : colOf y = some (t, z) := by
            rw [hform]
            exact col_cell
          cases hB3 with
          | @cons v1 vs1 d1 ds1 g1 hA =>
          cases hA with
          | @cons v2 vs2 d2 ds2 g2 hA =>
          cases hA with
          | @cons v3 vs3 d3 ds3 g3 hA =>
          cases hA
          cases g1
          cases g3
          refine ⟨.ref cl, rfl, .inl ⟨rfl, _, .inl (.inl N3.cl)⟩, .ref a1, rfl, a1, _, 1, .str t, rfl, rfl, hS3, at1, .ref a1, rfl, a1, _, 3, .str z, rfl, rfl, hS3, at3, le2, fun p np => ?_⟩
          have s4 := same_upd (o := .tup [.str t, .str z]) np
          have N4 := N3.keep s4
          refine ⟨cl, _, .ref p, rfl, rfl, N4.cl, by rw [List.length_map]; omega, rfl, ⟨_, N4.col (d := (t, z)) e3 upd_same, ?_⟩, fun c ob h1 e => by rw [upd_ne h1]; exact s4 _ _ e⟩
          rw [List.map_append, if_pos rfl, ev]
          rfl
        · have c1 : wd ≠ "cell" := fun z => c1 (by simpa using z)
          refine ⟨rfl, ⟨ps, N3, ?_⟩, fun c ob _ e => e⟩
          rw [if_neg c1, List.append_nil]
      rintro σ' H4 ⟨rfl, ⟨ps1, N4, hps1⟩, k4⟩
      have t4 := kept_one N3.cl k4
      have hS4 := t4.seqt hS3
      have hus4 := k4 _ _ e2.symm hus3
      have hB4 := dp_keepAll t4 _ _ fy.2 hB3
      have lps1 : ps1.length ≤ ps.length + 1 := by
        have z := congrArg List.length hps1
        rw [List.length_map, List.length_append, List.length_map] at z
        have : (if wd = "cell" then (colOf y).toList else []).length ≤ 1 := by
          split
          · cases colOf y <;> simp
          · simp
        omega
      -- an aggregate's
      refine ⟨fun σ' H'' => σ' = [some v, some (.ref lf), some (.int ((many + 1 : Nat) : Int)), some (.int ((max deep (b + 1) : Nat) : Int)), some (.ref nm), some (.ref cl), some (.ref a1), some (.int ((b + 1 : Nat) : Int)), z8] ∧
        (∃ ps2 : PL, Noted H'' nm cl (ns ++ (varName y).toList) ps2 ∧ ps2.map (·.2) = ps.map (·.2) ++ (colOf y).toList) ∧ ∀ c ob, c ≠ cl → H4 c = some ob → H'' c = some ob, ?_, ?_⟩
      · refine ⟨.ref a1, rfl, a1, _, 0, .str wd, rfl, rfl, hS4, at0, small_le (show 4 ≤ 1000 by decide), fun p1 np1 => ?_⟩
        have s5 := same_upd (o := .tup [.str "count", .str "sum", .str "most", .str "first"]) np1
        have hp1 : SqT K (upd H4 p1 (.tup [.str "count", .str "sum", .str "most", .str "first"])) p1 (aggW.map V.str) := .inl (.inl upd_same)
        refine ⟨p1, aggW.map V.str, rfl, .inr hp1, rfl, flat_strs aggW, _, rfl, ?_⟩
        clear hp1
        revert s5
        generalize upd H4 p1 (.tup [.str "count", .str "sum", .str "most", .str "first"]) = H5
        intro s5
        rw [wanted_in]
        have hS5 := (KeepT.of s5).seqt hS4
        have N5 := N4.keep s5
        refine ite2 (fun c1 => ?_) (fun c1 => ?_)
        · have c1 : wd ∈ aggW := by simpa using c1
          have ey' := ey
          rw [hform] at ey'
          obtain ⟨_, t, xs, y1, ys, _, rfl, _, _, _, _, hy1, _⟩ := ey'.agg_of c1
          have ev : colOf y = some (t, ("in" : Str)) := by
            rw [hform]
            exact col_agg c1 hy1
          cases hB4 with
          | @cons v1 vs1 d1 ds1 g1 hA =>
          cases g1
          refine ⟨.ref cl, rfl, .inl ⟨rfl, _, .inl (.inl N5.cl)⟩, .ref a1, rfl, a1, _, 1, .str t, rfl, rfl, hS5, at1, le2, fun p np => ?_⟩
          have s6 := same_upd (o := .tup [.str t, .str "in"]) np
          have N6 := N5.keep s6
          refine ⟨cl, _, .ref p, rfl, rfl, N6.cl, by rw [List.length_map]; omega, rfl, ⟨_, N6.col (d := (t, "in")) e3 upd_same, ?_⟩, fun c ob h1 e => by rw [upd_ne h1]; exact s6 _ _ (s5 _ _ e)⟩
          rw [List.map_append, hps1, if_neg (agg_ne c1), List.append_nil, ev]
          rfl
        · have c1 : wd ∉ aggW := fun z => c1 (by simpa using z)
          refine ⟨rfl, ⟨ps1, N5, ?_⟩, fun c ob _ e => s5 _ _ e⟩
          rw [hps1]
          by_cases c2 : wd = "cell"
          · rw [if_pos c2]
          · rw [if_neg c2, hform, col_no c2 c1]
            rfl
      rintro σ' H5 ⟨rfl, ⟨ps2, N5, hps2⟩, k5⟩
      have t5 := kept_one N4.cl k5
      have hus5 := k5 _ _ e2.symm hus4
      have lps2 : ps2.length ≤ ps.length + 1 := by
        have z := congrArg List.length hps2
        rw [List.length_map, List.length_append, List.length_map] at z
        have : (colOf y).toList.length ≤ 1 := by cases colOf y <;> simp
        omega
      have t25 := t3.trans (t4.trans t5)
      have hy5 := ey.kept t25 hy2
      have hU5 := dp_keepAll t25 _ _ fes' hU2
      have keep5 : ∀ c ob, c ≠ lf → c ≠ nm → c ≠ cl → H c = some ob → H5 c = some ob := fun c ob h1 h2 h3 e => k5 _ _ h3 (k4 _ _ h3 (k3 _ _ h2 (keep2 c ob h1 h2 h3 e)))
      refine ⟨.ref lf, rfl, .inl ⟨rfl, _, .inl (.inl hus5)⟩, .ref a1, rfl, .ref a1, y, zs, n, rfl, hy5, ey, fun H6 r us4 s6 nr hr6 hu6 => ⟨r, rfl, ⟨us4, .inl (.inl hr6)⟩, fun D nD => ?_⟩⟩
      have lu6 := dpAll_len hu6
      have k6 := ex_kid ey
      have fk : ∀ (z : PyData) (c : Nat), z ∈ kids y → flatD (entD (z, c)) = true := fun z c hz => flat_ent (e := (z, c)) (k6.1 z hz)
      have full : (partsE n (es' ++ [(y, b)])).length ≤ 2100000 := by omega
      have lfull := parts_len hE
      refine walk_body (xs := us4) (fun i H' => ∃ acc, H' D = some (.lst acc) ∧ acc.length = i ∧ DpAll K H' acc (((kids y).take i).map fun z => entD (z, b + 1)) ∧ Same H6 H') ?_ ?_ ?_ ?_
      · refine ⟨[], upd_same, rfl, ?_, same_upd nD⟩
        rw [List.take_zero]
        exact .nil
      · rintro i H' _ ⟨acc, hD, hacc, hdp, k⟩
        exact .inl (.inl (k _ _ hr6))
      · rintro i u H' hui ⟨acc, hD, hacc, hdp, k⟩
        obtain ⟨z, hzi, huz⟩ := dpAll_at hu6 hui
        have hzm := List.mem_of_getElem? hzi
        have hi' : i < us4.length := (List.getElem?_eq_some_iff.mp hui).1
        have fz := (k6.1 z hzm).flat
        have huz2 := dp_keep (KeepT.of k) _ _ fz huz
        refine ⟨rfl, yes_then ⟨u, rfl, _, rfl, ((b + 1 : Nat) : Int), 1, rfl, rfl, le2, fun pn npn => ?_⟩⟩
        have s7 := same_upd (o := .tup [u, .int (((b + 1 : Nat) : Int) + 1)]) npn
        have hD7 := s7 _ _ hD
        have k7 : KeepT (upd H' pn (.tup [u, .int (((b + 1 : Nat) : Int) + 1)])) (upd (upd H' pn (.tup [u, .int (((b + 1 : Nat) : Int) + 1)])) D (.lst (acc ++ [.ref pn]))) := KeepT.lst hD7
        have fpre : flatDs (((kids y).take i).map fun z => entD (z, b + 1)) = true := flatDs_of fun d hd => by
          obtain ⟨t, ht, rfl⟩ := List.mem_map.mp hd
          exact fk t _ (List.mem_of_mem_take ht)
        refine ⟨acc, hD7, small1000 (by omega), acc ++ [.ref pn], upd_same, by rw [List.length_append, hacc]; rfl, ?_, fun c ob e => ?_⟩
        · rw [take_snoc hzi, List.map_append]
          refine dpAll_append (dp_keepAll ((KeepT.of s7).trans k7) _ _ fpre hdp) (.cons ?_ .nil)
          exact dp_keep k7 _ _ (fk z (b + 1) hzm) (.tup (.inl (.inl upd_same)) (.cons (dp_keep (KeepT.of s7) _ _ fz huz2) (.cons (.int _) .nil)))
        · rw [upd_ne (ne_of_none e nD)]
          exact s7 _ _ (k _ _ e)
      · rintro H7 ⟨acc, hD, hacc, hdq, s7⟩
        rw [lu6, List.take_length] at hdq
        have s67 := s6.trans s7
        have hus7 := s67 _ _ hus5
        have N7 := N5.keep s67
        have k8 : KeepT H7 (upd H7 lf (.lst (us.dropLast ++ acc))) := KeepT.lst hus7
        have lud : us.dropLast.length ≤ us.length := by
          rw [List.length_dropLast]
          omega
        have pk0 := parts_kids (a := b) (b := b + 1) ey
        have hsplitP : partsE n (es' ++ [(y, b)]) = partsE n es' ++ y :: partsE n ((kids y).map fun z => (z, b + 1)) := by rw [parts_more, pk0]
        have hnewP : partsE n (es' ++ (kids y).map fun z => (z, b + 1)) = partsE n es' ++ partsE n ((kids y).map fun z => (z, b + 1)) := parts_more _ _ _
        have hl : (partsE n (es' ++ [(y, b)])).length = (partsE n (es' ++ (kids y).map fun z => (z, b + 1))).length + 1 := by
          rw [hsplitP, hnewP, List.length_append, List.length_append, List.length_cons]
          omega
        have hdp2 : max (max deep (b + 1)) (deepE n (es' ++ (kids y).map fun z => (z, b + 1))) = dpt n x := by
          rw [deep_more, deep_kids ey] at hdp
          rw [deep_more]
          omega
        refine ⟨lf, D, us.dropLast, acc, rfl, rfl, hus7, hD, ?_, (partsE n (es' ++ (kids y).map fun z => (z, b + 1))).length, by omega, lf, nm, cl, many + 1, max deep (b + 1), _, _, _, us.dropLast ++ acc, es' ++ (kids y).map fun z => (z, b + 1), ns ++ (varName y).toList, ps2, rfl, upd_same, N7.lst e1 e2 hus7, ⟨n1, n2, n3⟩, ⟨e1, e2, e3⟩, ?_, ?_, rfl, by omega, hdp2, ?_, by omega, fun z => ?_, fun z => ?_, fun c ob h1 h2 h3 e => ?_⟩
        · rw [hacc, sizeLine_eq]
          have := k6.2
          omega
        · rw [List.map_append, List.map_map]
          refine dpAll_append (dp_keepAll ((KeepT.of s67).trans k8) _ _ fes' hU5) (dp_keepAll k8 _ _ ?_ hdq)
          exact flatDs_of fun d hd => by
            obtain ⟨t, ht, rfl⟩ := List.mem_map.mp hd
            exact fk t _ ht
        · intro e he'
          rcases List.mem_append.mp he' with he' | he'
          · exact hE' e he'
          · obtain ⟨t, ht, rfl⟩ := List.mem_map.mp he'
            exact k6.1 t ht
        · rw [List.length_append]
          have : (varName y).toList.length ≤ 1 := by cases varName y <;> simp
          omega
        · rw [← hn z, hsplitP, hnewP, vars_app, vars_app, vars_cons]
          simp only [List.mem_append]
          constructor
          · rintro ((h | h) | (h | h))
            · exact .inl h
            · exact .inr (.inr (.inl h))
            · exact .inr (.inl h)
            · exact .inr (.inr (.inr h))
          · rintro (h | (h | (h | h)))
            · exact .inl (.inl h)
            · exact .inr (.inl h)
            · exact .inl (.inr h)
            · exact .inr (.inr h)
        · rw [← hp z, hsplitP, hnewP, cols_app, cols_app, cols_cons, hps2]
          simp only [List.mem_append]
          constructor
          · rintro ((h | h) | (h | h))
            · exact .inl h
            · exact .inr (.inr (.inl h))
            · exact .inr (.inl h)
            · exact .inr (.inr (.inr h))
          · rintro (h | (h | (h | h)))
            · exact .inl (.inl h)
            · exact .inr (.inl h)
            · exact .inl (.inr h)
            · exact .inr (.inr h)
        · rw [upd_ne h1]
          exact s67 _ _ (keep5 c ob h1 h2 h3 e)
end
end K5

namespace K5
open PySem PySem.Spec PyProof.Rows L2 GR WX TX UA
theorem nm_ok {z : Str} (h : Nm z) : PyData.strOk z = true := so_iff.mpr fun c hc => Nat.lt_of_le_of_lt (h.2.2.1 c hc).2 (by decide)
theorem mx_le : ∀ (l : List Nat) (y : Nat), y ∈ l → y ≤ mx l
  | a :: l, y, h => by
    show y ≤ max a (mx l)
    rcases List.mem_cons.mp h with rfl | h
    · exact Nat.le_max_left _ _
    · exact Nat.le_trans (mx_le l y h) (Nat.le_max_right _ _)
theorem mx_mem : ∀ l : List Nat, mx l ∈ 0 :: l
  | [] => List.mem_cons_self
  | a :: l => by
    have ih := mx_mem l
    show max a (mx l) ∈ 0 :: a :: l
    rcases Nat.le_total (mx l) a with h | h
    · rw [Nat.max_eq_left h]
      exact List.mem_cons_of_mem _ List.mem_cons_self
    · rw [Nat.max_eq_right h]
      rcases List.mem_cons.mp ih with e | e
      · rw [e]
        exact List.mem_cons_self
      · exact List.mem_cons_of_mem _ (List.mem_cons_of_mem _ e)
theorem max_is {l : List Nat} {m : Int} (h1 : m ∈ (0 :: l).map fun k : Nat => (k : Int)) (h2 : ∀ y, y ∈ (0 :: l).map (fun k : Nat => (k : Int)) → y ≤ m) : m = (mx l : Int) := by
  obtain ⟨k, hk, rfl⟩ := List.mem_map.mp h1
  have a := h2 _ (List.mem_map.mpr ⟨_, mx_mem l, rfl⟩)
  have b : k ≤ mx l := by
    rcases List.mem_cons.mp hk with rfl | hk
    · exact Nat.zero_le _
    · exact mx_le l k hk
  have c : mx l ≤ k := Int.ofNat_le.mp a
  exact congrArg Int.ofNat (Nat.le_antisymm b c)
theorem sum_nat : ∀ l : List Nat, (l.map fun k : Nat => (k : Int)).sum = ((l.sum : Nat) : Int)
  | [] => rfl
  | k :: l => by
    rw [List.map_cons, List.sum_cons, List.sum_cons, sum_nat l]
    omega
theorem up_nodup {l : List Pr} (h : Up l) : l.Nodup := h.imp fun {p q} a e => by
  rw [e, plt_irr] at a
  cases a
/-! ### the answer can be shown -/
theorem res_ok {zs : List Str} (hz : ∀ z, z ∈ zs → Nm z) {a b : Nat} (ha : a ≤ 10 ^ 9) (hb : b ≤ 10 ^ 9) {ys : List Str} {cs : List Pr} (hy : ∀ z, z ∈ ys → z ∈ zs) (ly : ys.length ≤ 7) (hc : ∀ p, p ∈ cs → p ∈ pairsOn zs) (lc : cs.length ≤ 49) :
    (resD a b ys cs).showable = true ∧ (resD a b ys cs).depth ≤ 60 ∧ (resD a b ys cs).shown.length ≤ sizeLine ∧ (resD a b ys cs).canLay0 = true := by
  have nb : ∀ k : Nat, k ≤ 10 ^ 9 → -(10 ^ 18) ≤ (k : Int) ∧ (k : Int) ≤ 10 ^ 18 := fun k h => by omega
  have pn : ∀ p, p ∈ cs → Nm p.1 ∧ Nm p.2 := fun p hp => by
    have z := mem_pairsOn.mp (hc p hp)
    exact ⟨hz _ z.1, hz _ z.2⟩
  have ds : ∀ d, d ∈ ys.map PyData.str → d.showable = true ∧ d.depth ≤ 0 ∧ sl d + 2 ≤ 84 ∧ d.canLay0 = true := fun d hd => by
    obtain ⟨y, hy0, rfl⟩ := List.mem_map.mp hd
    have := sl_name (hz y (hy y hy0))
    refine ⟨by simp only [PyData.showable], by simp only [PyData.depth]; exact Nat.le_refl _, by omega, by simp only [PyData.canLay0]; exact nm_ok (hz y (hy y hy0))⟩
  have dc : ∀ d, d ∈ cs.map pairD → d.showable = true ∧ d.depth ≤ 1 ∧ sl d + 2 ≤ 175 ∧ d.canLay0 = true := fun d hd => by
    obtain ⟨p, hp, rfl⟩ := List.mem_map.mp hd
    obtain ⟨q1, q2⟩ := pn p hp
    have h1 := sl_name q1
    have h2 := sl_name q2
    have h3 := sh_tup [.str p.1, .str p.2]
    unfold pairD
    refine ⟨by simp only [PyData.showable, PyData.showableAll, Bool.and_self], by simp only [PyData.depth, PyData.depthAll]; omega, ?_, by simp only [PyData.canLay0, PyData.canLayAll0, nm_ok q1, nm_ok q2, Bool.and_self]⟩
    simp only [sls] at h3
    omega
  have con : ∀ (c : Nat) (l : List PyData), (l.map fun _ => c).sum = l.length * c := fun c l => by
    induction l with
    | nil => simp
    | cons x l ih => rw [List.map_cons, List.sum_cons, ih, List.length_cons, Nat.succ_mul]; omega
  have s1 := sls_le (b := fun _ => 84) fun d hd => (ds d hd).2.2.1
  have s2 := sls_le (b := fun _ => 175) fun d hd => (dc d hd).2.2.1
  rw [con, List.length_map] at s1 s2
  have t1 := sh_tup (ys.map PyData.str)
  have t2 := sh_tup (cs.map pairD)
  have t3 := sh_tup [.int (a : Int), .int (b : Int), .tuple (ys.map PyData.str), .tuple (cs.map pairD)]
  have i1 := sl_int (nb a ha).1 (nb a ha).2
  have i2 := sl_int (nb b hb).1 (nb b hb).2
  have g1 := int_log (nb a ha).1 (nb a ha).2
  have g2 := int_log (nb b hb).1 (nb b hb).2
  simp only [sls] at t3
  have e : sl (resD a b ys cs) = (resD a b ys cs).shown.length := rfl
  refine ⟨?_, ?_, ?_, ?_⟩
  · unfold resD
    simp only [PyData.showable, PyData.showableAll, showAll_of fun d hd => (ds d hd).1, showAll_of fun d hd => (dc d hd).1, Bool.and_true]
    rw [Bool.and_eq_true]
    exact ⟨decide_eq_true (by omega), decide_eq_true (by omega)⟩
  · have d1 := depth_all fun d hd => (ds d hd).2.1
    have d2 := depth_all fun d hd => (dc d hd).2.1
    unfold resD
    simp only [PyData.depth, PyData.depthAll]
    omega
  · rw [← e, sizeLine_eq]
    show sl (.tuple _) ≤ _
    omega
  · unfold resD
    simp only [PyData.canLay0, PyData.canLayAll0, lay_all fun d hd => (ds d hd).2.2.2, lay_all fun d hd => (dc d hd).2.2.2, Bool.and_self]
theorem Ans.inn {zs : List Str} {n : Nat} {x : PyData} {ys : List Str} {cs : List Pr} (A : Ans n x ys cs) (he : Ex zs n x) (hi : ("in" : Str) ∈ zs) (h7 : zs.length ≤ 7) :
    (∀ z, z ∈ ys → z ∈ zs) ∧ ys.length ≤ 7 ∧ (∀ p, p ∈ cs → p ∈ pairsOn zs) ∧ cs.length ≤ 49 := by
  have hE := lvls_ex (n := n) (l := [x]) (zs := zs) fun y hy => by
    rw [List.mem_singleton.mp hy]
    exact he
  have h1 : ∀ z, z ∈ ys → z ∈ zs := fun z hz => vars_in hE z ((A.ys z).mp hz)
  have h2 : ∀ p, p ∈ cs → p ∈ pairsOn zs := fun p hp => cols_in hi hE p ((A.cs p).mp hp)
  have l1 := nodup_le A.nd h1
  have l2 := nodup_leD (up_nodup A.up) h2
  rw [pairsOn_len] at l2
  have l3 : zs.length * zs.length ≤ 7 * 7 := Nat.mul_le_mul h7 h7
  exact ⟨h1, by omega, h2, by omega⟩
theorem dpt_le {zs : List Str} : ∀ {n : Nat} {x : PyData}, Ex zs n x → dpt n x ≤ n
  | 0, _, h => by cases h
  | n + 1, x, h => by
    show 1 + mx ((kids x).map (dpt n)) ≤ n + 1
    have : mx ((kids x).map (dpt n)) ≤ n := by
      have m := mx_mem ((kids x).map (dpt n))
      rcases List.mem_cons.mp m with e | e
      · rw [e]
        exact Nat.zero_le _
      · obtain ⟨y, hy, e⟩ := List.mem_map.mp e
        rw [← e]
        exact dpt_le (h.kids.1 y hy)
    omega
end K5

namespace K5
open PySem PySem.Spec PyProof.Rows L2 GR WX TX UA
section
variable {P : Program} {w : World} {K : PySem.W.Frag} {mg : Str → Option Value} {base : Heap}
abbrev s_law_right : Stmt := topS 24
abbrev N_right : List Str := ["_law_thing", "_law_before", "_law_due_here", "_law_inner", "_law_one"]
theorem sc_law_right : FnScope N_right ["_law_thing"] (defScope s_law_right) := ⟨rfl, rfl, rfl, by decide +kernel, rfl, by decide +kernel, by decide +kernel⟩
/-- what may be asked -/
structure Asked (zs : List Str) (n : Nat) (x : PyData) : Prop where
  ex : Ex zs n x
  n10 : n ≤ 10
  px : (flatP n x).length ≤ 60000
  nm : ∀ z, z ∈ zs → Nm z
  h7 : zs.length ≤ 7
  hi : ("in" : Str) ∈ zs
def sp_right (K : PySem.W.Frag) : Sp := fun vs H Q _ => ∃ (v : V) (x : PyData) (zs : List Str) (n : Nat), vs = [v] ∧ Dp K H v x ∧ Asked zs n x ∧ ∀ H', Same H H' → Q (.bl true) H'
theorem ok_right {f f1 f2 f3 f4 f5 : Addr} {fd d1 d2 d3 d4 d5 : FuncData} {k : Nat} (F : Fun K "_law_right" "_law_right" s_law_right f fd)
    (G1 : FnOk P w K mg base CX0 k f1 d1 ["expression"] (sp_parts_of K)) (g1 : mg "parts_of" = some (.ref f1)) (K1 : PySem.W.keepIn K (.ref f1) = true) (b1 : Binds K d1 ["expression"] [])
    (G2 : FnOk P w K mg base CX0 k f2 d2 ["expression"] (sp_depth_of K)) (g2 : mg "depth_of" = some (.ref f2)) (K2 : PySem.W.keepIn K (.ref f2) = true) (b2 : Binds K d2 ["expression"] [])
    (G3 : FnOk P w K mg base CX0 k f3 d3 ["_law_thing"] (sp_ans K)) (g3 : mg "_law_due" = some (.ref f3)) (K3 : PySem.W.keepIn K (.ref f3) = true) (b3 : Binds K d3 ["_law_thing"] [])
    (G4 : FnOk P w K mg base CX0 k f4 d4 ["_law_thing"] (sp_ans K)) (g4 : mg "_law_told" = some (.ref f4)) (K4 : PySem.W.keepIn K (.ref f4) = true) (b4 : Binds K d4 ["_law_thing"] [])
    (G5 : FnOk P w K mg base CX0 k f5 d5 ["_law_thing"] (sp_inside K)) (g5 : mg "_law_inside" = some (.ref f5)) (K5 : PySem.W.keepIn K (.ref f5) = true) (b5 : Binds K d5 ["_law_thing"] [])
    (mrepr : mg "repr" = none) (msum : mg "sum" = none) (mmax : mg "max" = none) : FnG P w K mg base CX0 (k + 1) f fd ["_law_thing"] (sp_right K) := by
  have nd := sc_law_right.nd
  refine ok_g F sc_law_right (fun vs H Q E h => ?_) (fun cdv A outer s H vs Q E hg hr h => ?_)
  · obtain ⟨v, x, zs, n, rfl, _⟩ := h
    rfl
  obtain ⟨v, x, zs, n, rfl, hx, B, q⟩ := h
  refine ⟨_, (pss_cons (ps_par (i := 1) (j := 2) rfl nd rfl rfl (by decide) rfl rfl (pa_cons (pe_callB (call_reprD hg hr) (by rfl) mrepr boot_repr (pa_cons (pv 0) pa_nil)) (pa_cons (pe_callB (call_reprD hg hr) (by rfl) mrepr boot_repr (pa_cons (pe_call G3 hr (by rfl) g3 K3 b3 .nil pass0 (pa_cons (pv 0) pa_nil)) pa_nil)) pa_nil)) (by rfl))
      (pss_cons (ps_if (pt_cmpR (op_neD hr.units) (pe_lst (pa_cons (pe_callB (call_reprD hg hr) (by rfl) mrepr boot_repr (pa_cons (pe_call G4 hr (by rfl) g4 K4 b4 .nil pass0 (pa_cons (pv 0) pa_nil)) pa_nil)) (pa_cons (pe_callB (call_reprD hg hr) (by rfl) mrepr boot_repr (pa_cons (pe_call G4 hr (by rfl) g4 K4 b4 .nil pass0 (pa_cons (pv 0) pa_nil)) pa_nil)) (pa_cons (pe_callB (call_reprD hg hr) (by rfl) mrepr boot_repr (pa_cons (pv 0) pa_nil)) pa_nil)))) (pe_lst (pa_cons (pv 2) (pa_cons (pv 2) (pa_cons (pv 1) pa_nil)))) (nomark _))
      (pss_one (ps_ret pe_bl))
      pss_nil)
      (pss_cons (ps_set (i := 3) nd rfl (.inl rfl) (pe_call G5 hr (by rfl) g5 K5 b5 .nil pass0 (pa_cons (pv 0) pa_nil)))
      (pss_cons (ps_if (pt_cmpR op_ne (pe_call G1 hr (by rfl) g1 K1 b1 .nil pass0 (pa_cons (pv 0) pa_nil)) (pe_op op_add pe_int (pe_callB (cr_sum rfl) (by rfl) msum boot_sum (pa_cons (pe_lc (own := [("_law_one", 4)]) rfl nd (pi_list (pv 3)) (blkOk_by (N := N_right) (sc := defScope s_law_right) (by decide +kernel)) (fun _ _ _ _ _ => (pg_name (i := 4) nd rfl (Or.inl rfl))) (fun _ _ _ _ _ => pts_nil) (te := tCall (sp_parts_of K) [] E0 (tCons (tVar 4) tNil)) (fun _ _ _ _ _ => (pe_call G1 hr (by rfl) g1 K1 b1 .nil pass0 (pa_cons (pv 4) pa_nil)))) pa_nil))) (nomark _))
      (pss_one (ps_ret pe_bl))
      pss_nil)
      (pss_one (ps_ret (pe_cmpR op_eq (pe_call G2 hr (by rfl) g2 K2 b2 .nil pass0 (pa_cons (pv 0) pa_nil)) (pe_op op_add pe_int (pe_callB (cr_max rfl) (by rfl) mmax boot_max (pa_cons (pe_op op_cat (pe_lst (pa_cons pe_int pa_nil)) (pe_lc (own := [("_law_one", 4)]) rfl nd (pi_list (pv 3)) (blkOk_by (N := N_right) (sc := defScope s_law_right) (by decide +kernel)) (fun _ _ _ _ _ => (pg_name (i := 4) nd rfl (Or.inl rfl))) (fun _ _ _ _ _ => pts_nil) (te := tCall (sp_depth_of K) [] E0 (tCons (tVar 4) tNil)) (fun _ _ _ _ _ => (pe_call G2 hr (by rfl) g2 K2 b2 .nil pass0 (pa_cons (pv 4) pa_nil))))) pa_nil))) (nomark _)))))))), ?_⟩
  have z24 : sizeLine = 16777216 := sizeLine_eq
  have he := B.ex
  have px := B.px
  have n10 := B.n10
  have hb : (flatP n x).length ≤ 2100000 := by omega
  have lx := len_ex B.nm he
  have dx := depth_of he
  have lnX : x.shown.length ≤ sizeLine := by
    have h2 : sl x = x.shown.length := rfl
    omega
  obtain ⟨a, rfl⟩ : ∃ a, v = .ref a := by
    obtain ⟨w1, f1, r1, e1, _, _⟩ := he.form
    rw [e1] at hx
    cases hx with
    | tup h1 h2 => exact ⟨_, rfl⟩
  have hlen : (lvls n [x]).length = (flatP n x).length := (lvls_flat n x).length_eq
  have hA1 : (lvls n [x]).length ≤ 10 ^ 9 := by omega
  have hA2 : deepN n [x] ≤ 10 ^ 9 := by
    have := dpt_le he
    rw [deepN_one]
    omega
  refine ⟨.ref a, rfl, a, x, rfl, hx, he.show, by omega, lnX, ?_⟩
  refine ⟨.ref a, rfl, .ref a, x, zs, n, rfl, hx, he, hb, B.h7, B.hi, fun H1 r1 ys cs s1 nr1 A1 hr1 => ?_⟩
  obtain ⟨y1, y2, c1, c2⟩ := A1.inn he B.hi B.h7
  obtain ⟨k1, k2, k3, k4⟩ := res_ok B.nm hA1 hA2 y1 y2 c1 c2
  refine ⟨r1, _, rfl, hr1, k1, k2, k3, ?_⟩
  refine ⟨_, _, rfl, ?_⟩
  have hx1 := he.kept (KeepT.of s1) hx
  -- told, twice
  refine ⟨.ref a, rfl, .ref a, x, zs, n, rfl, hx1, he, hb, B.h7, B.hi, fun H2 r2 ys2 cs2 s2 nr2 A2 hr2 => ?_⟩
  obtain ⟨rfl, rfl⟩ := A1.one A2
  refine ⟨r2, _, rfl, hr2, k1, k2, k3, ?_⟩
  have hx2 := he.kept (KeepT.of s2) hx1
  refine ⟨.ref a, rfl, .ref a, x, zs, n, rfl, hx2, he, hb, B.h7, B.hi, fun H3 r3 ys3 cs3 s3 nr3 A3 hr3 => ?_⟩
  obtain ⟨rfl, rfl⟩ := A1.one A3
  refine ⟨r3, _, rfl, hr3, k1, k2, k3, ?_⟩
  have hx3 := he.kept (KeepT.of s3) hx2
  refine ⟨.ref a, rfl, a, x, rfl, hx3, he.show, by omega, lnX, ?_⟩
  generalize (resD (lvls n [x]).length (deepN n [x]) ys cs) = rd at k1 k2 k3 k4 hr1 hr2 hr3 ⊢
  have dtx : ∀ (H : Hp), DpAll K H [.str rd.shown, .str rd.shown, .str x.shown] [.str rd.shown, .str rd.shown, .str x.shown] := fun H => .cons (.str _) (.cons (.str _) (.cons (.str _) .nil))
  have shp : SeqAt.shaped (.list [.str rd.shown, .str rd.shown, .str x.shown]) = true := by
    have a1 := shown_ok k4
    have a2 := shown_ok (lay_of (fun z hz => nm_ok (B.nm z hz)) he)
    unfold SeqAt.shaped
    rw [Bool.and_eq_true]
    refine ⟨by simp only [PyData.canLay0, PyData.canLayAll0, a1, a2, Bool.and_self], decide_eq_true ?_⟩
    simp only [PyData.depth, PyData.depthAll]
    omega
  have eqt : (!PyData.eqv (.list [.str rd.shown, .str rd.shown, .str x.shown]) (.list [.str rd.shown, .str rd.shown, .str x.shown])) = false := by
    simp [PyData.eqv, PyData.eqvAll]
  refine ⟨small_le (show 3 ≤ 1000 by decide), fun l1 nl1 => ?_⟩
  have s4 := same_upd (o := .lst [.str rd.shown, .str rd.shown, .str x.shown]) nl1
  have hl1 : upd H3 l1 (.lst [.str rd.shown, .str rd.shown, .str x.shown]) l1 = some (.lst [.str rd.shown, .str rd.shown, .str x.shown]) := upd_same
  revert hl1 s4
  generalize upd H3 l1 (.lst [.str rd.shown, .str rd.shown, .str x.shown]) = H4
  intro s4 hl1
  refine ⟨_, rfl, _, rfl, _, rfl, small_le (show 3 ≤ 1000 by decide), fun l2 nl2 => ?_⟩
  have s5 := same_upd (o := .lst [.str rd.shown, .str rd.shown, .str x.shown]) nl2
  have hl2 : upd H4 l2 (.lst [.str rd.shown, .str rd.shown, .str x.shown]) l2 = some (.lst [.str rd.shown, .str rd.shown, .str x.shown]) := upd_same
  have hl15 := s5 _ _ hl1
  revert hl2 s5 hl15
  generalize upd H4 l2 (.lst [.str rd.shown, .str rd.shown, .str x.shown]) = H5
  intro s5 hl2 hl15
  refine ⟨_, _, .lst (.inl (.inl hl15)) (dtx _), .lst (.inl (.inl hl2)) (dtx _), shp, shp, ?_⟩
  rw [eqt]
  refine ⟨_, rfl, ite2 (fun e => (nomatch e)) (fun _ => ?_)⟩
  have s35 := s4.trans s5
  have hx5 := he.kept (KeepT.of s35) hx3
  refine ⟨.ref a, rfl, .ref a, x, zs, n, rfl, hx5, he, fun H6 p us s6 np hp hu => ?_⟩
  have hx6 := he.kept (KeepT.of s6) hx5
  have kk6 := ex_kid he
  have lu := dpAll_len hu
  refine ⟨.ref a, rfl, .ref a, x, zs, n, rfl, hx6, he, hb, fun H7 s7 => ?_⟩
  have hx7 := he.kept (KeepT.of s7) hx6
  have hp7 := s7 _ _ hp
  have fk : flatDs (kids x) = true := flat_all kk6.1
  have hu7 := dp_keepAll (KeepT.of s7) _ _ fk hu
  have small : ∀ y, y ∈ kids x → (flatP n y).length ≤ 2100000 := fun y hy => by
    have e := flatP_kids he
    have l := congrArg List.length e
    rw [List.length_cons, List.length_flatMap] at l
    have g : ∀ (l : List PyData), y ∈ l → (flatP n y).length ≤ (l.map fun z => (flatP n z).length).sum := fun l => by
      induction l with
      | nil => exact fun h => nomatch h
      | cons z l ih =>
        intro h
        rw [List.map_cons, List.sum_cons]
        rcases List.mem_cons.mp h with rfl | h
        · omega
        · have := ih h
          omega
    have := g _ hy
    omega
  refine ⟨.ref p, rfl, p, rfl, ⟨us, .inl (.inl hp7)⟩, fun D nD => ?_⟩
  refine walk_body (xs := us) (fun i H' => H' D = some (.lst (((kids x).take i).map fun y => V.int ((lvls n [y]).length : Int))) ∧ Same H7 H') ?_ ?_ ?_ ?_
  · refine ⟨?_, same_upd nD⟩
    rw [List.take_zero]
    exact upd_same
  · rintro i H' _ ⟨hD, kk⟩
    exact .inl (.inl (kk _ _ hp7))
  · rintro i u H' hui ⟨hD, kk⟩
    obtain ⟨y, hyi, huy⟩ := dpAll_at hu7 hui
    have hym := List.mem_of_getElem? hyi
    have ey := kk6.1 y hym
    have hi' : i < us.length := (List.getElem?_eq_some_iff.mp hui).1
    refine ⟨rfl, yes_then ⟨u, rfl, u, y, zs, n, rfl, ey.kept (KeepT.of kk) huy, ey, small y hym, fun H8 s8 => ?_⟩⟩
    have hD8 := s8 _ _ hD
    refine ⟨_, hD8, ?_, ?_, fun b o e => ?_⟩
    · rw [List.length_map, List.length_take, sizeLine_eq]
      have := kk6.2
      omega
    · rw [upd_same, take_snoc hyi, List.map_append]
      rfl
    · rw [upd_ne (ne_of_none e nD)]
      exact s8 _ _ (kk _ _ e)
  rintro H8 ⟨hD8, s8⟩
  rw [lu, List.take_length] at hD8
  have esum : ((kids x).map fun y => ((lvls n [y]).length : Int)).sum + 1 = ((lvls n [x]).length : Int) := by
    have e := congrArg List.length (flatP_kids he)
    rw [List.length_cons, List.length_flatMap] at e
    have e2 : ((kids x).map fun y => ((lvls n [y]).length : Int)) = ((kids x).map fun y => (flatP n y).length).map fun k : Nat => (k : Int) := by
      rw [List.map_map]
      refine List.map_congr_left fun y _ => ?_
      show ((lvls n [y]).length : Int) = ((flatP n y).length : Int)
      rw [(lvls_flat n y).length_eq]
    rw [e2, sum_nat, hlen]
    omega
  refine ⟨D, (kids x).map fun y => ((lvls n [y]).length : Int), rfl, .inl (.inl ?_), 1, _, rfl, rfl, rfl, ?_⟩
  · rw [List.map_map]
    exact hD8
  have eone : (!decide (V.int ((lvls n [x]).length : Int) = V.int (1 + ((kids x).map fun y => ((lvls n [y]).length : Int)).sum))) = false := by
    rw [Int.add_comm, esum]
    simp
  refine ⟨_, rfl, ite2 (fun e => absurd (eone.symm.trans e) (by decide)) (fun _ => ?_)⟩
  have hx8 := he.kept (KeepT.of s8) hx7
  have hp8 := s8 _ _ hp7
  have hu8 := dp_keepAll (KeepT.of s8) _ _ fk hu7
  -- the depth
  refine ⟨.ref a, rfl, .ref a, x, zs, n, rfl, hx8, he, hb, fun H9 s9 => ?_⟩
  have hp9 := s9 _ _ hp8
  have hu9 := dp_keepAll (KeepT.of s9) _ _ fk hu8
  refine ⟨small_le (show 1 ≤ 1000 by decide), fun z0 nz0 => ?_⟩
  have s10 := same_upd (o := .lst [.int 0]) nz0
  have hz0 : upd H9 z0 (.lst [.int 0]) z0 = some (.lst [.int 0]) := upd_same
  revert hz0 s10
  generalize upd H9 z0 (.lst [.int 0]) = H10
  intro s10 hz0
  have hp10 := s10 _ _ hp9
  have hu10 := dp_keepAll (KeepT.of s10) _ _ fk hu9
  refine ⟨.ref p, rfl, p, rfl, ⟨us, .inl (.inl hp10)⟩, fun D2 nD2 => ?_⟩
  refine walk_body (xs := us) (fun i H' => H' D2 = some (.lst (((kids x).take i).map fun y => V.int (deepN n [y] : Int))) ∧ Same H10 H') ?_ ?_ ?_ ?_
  · refine ⟨?_, same_upd nD2⟩
    rw [List.take_zero]
    exact upd_same
  · rintro i H' _ ⟨hD, kk⟩
    exact .inl (.inl (kk _ _ hp10))
  · rintro i u H' hui ⟨hD, kk⟩
    obtain ⟨y, hyi, huy⟩ := dpAll_at hu10 hui
    have hym := List.mem_of_getElem? hyi
    have ey := kk6.1 y hym
    have hi' : i < us.length := (List.getElem?_eq_some_iff.mp hui).1
    refine ⟨rfl, yes_then ⟨u, rfl, u, y, zs, n, rfl, ey.kept (KeepT.of kk) huy, ey, small y hym, fun H11 s11 => ?_⟩⟩
    have hD11 := s11 _ _ hD
    refine ⟨_, hD11, ?_, ?_, fun b o e => ?_⟩
    · rw [List.length_map, List.length_take, sizeLine_eq]
      have := kk6.2
      omega
    · rw [upd_same, take_snoc hyi, List.map_append]
      rfl
    · rw [upd_ne (ne_of_none e nD2)]
      exact s11 _ _ (kk _ _ e)
  rintro H11 ⟨hD11, s11⟩
  rw [lu, List.take_length] at hD11
  have hz11 := s11 _ _ hz0
  refine ⟨z0, D2, [.int 0], _, rfl, rfl, hz11, hD11, ?_, fun c nc => ?_⟩
  · rw [List.length_map, z24]
    have := kk6.2
    show 1 + _ ≤ _
    omega
  have s12 := same_upd (o := .lst ([.int 0] ++ (kids x).map fun y => V.int (deepN n [y] : Int))) nc
  have s012 := s1.trans (s2.trans (s3.trans (s35.trans (s6.trans (s7.trans (s8.trans (s9.trans (s10.trans (s11.trans s12)))))))))
  refine ⟨c, (0 :: (kids x).map (dpt n)).map fun k : Nat => (k : Int), rfl, .inl (.inl ?_), by simp, fun m hm1 hm2 => ?_⟩
  · rw [upd_same, List.map_map, List.map_cons, List.map_map]
    refine congrArg some (congrArg HO.lst ?_)
    show V.int 0 :: _ = V.int 0 :: _
    refine congrArg (V.int 0 :: ·) (List.map_congr_left fun y _ => ?_)
    show V.int (deepN n [y] : Int) = V.int ((dpt n y : Nat) : Int)
    rw [deepN_one]
  have em := max_is hm1 hm2
  refine ⟨1, m, rfl, rfl, rfl, ?_⟩
  have etwo : decide (V.int (deepN n [x] : Int) = V.int (1 + m)) = true := by
    rw [em, deepN_one, dpt_kids he]
    simp
  rw [etwo]
  exact q _ s012
end
end K5

namespace K5
open PySem PySem.Spec PyProof.Rows L2 GR WX TX UA
/-! ### the law's larger one -/
def bothD (x : PyData) : PyData := .tuple [.str "cell", .str "in", .tuple [.str "+", x, .tuple [.str "key"]], .str "in"]
theorem both_ex {zs : List Str} {x : PyData} (hi : ("in" : Str) ∈ zs) (he : Ex zs 7 x) : Ex zs 9 (bothD x) := .cell 8 _ _ _ hi hi (.op 7 _ _ _ (by decide) he (.leaf 6 _ .key))
theorem key_flat : flatP 7 (.tuple [.str "key"]) = [.tuple [.str "key"]] := by
  show PyData.tuple [.str "key"] :: (kids (.tuple [.str "key"])).flatMap (flatP 6) = _
  rw [kids_leaf (zs := []) .key]
  rfl
theorem key_deep : dpt 7 (.tuple [.str "key"]) = 1 := by
  show 1 + mx ((kids (.tuple [.str "key"])).map (dpt 6)) = 1
  have e : kids (.tuple [.str "key"]) = [] := kids_leaf (zs := []) .key
  exact congrArg (fun l : List PyData => 1 + mx (l.map (dpt 6))) e
theorem both_parts (x : PyData) : (flatP 9 (bothD x)).length = (flatP 7 x).length + 3 := by
  have e1 : flatP 9 (bothD x) = bothD x :: (kids (bothD x)).flatMap (flatP 8) := rfl
  have e2 : flatP 8 (.tuple [.str "+", x, .tuple [.str "key"]]) = .tuple [.str "+", x, .tuple [.str "key"]] :: (kids (.tuple [.str "+", x, .tuple [.str "key"]])).flatMap (flatP 7) := rfl
  rw [e1, show kids (bothD x) = [.tuple [.str "+", x, .tuple [.str "key"]]] from kids_cell, List.flatMap_cons, List.flatMap_nil, List.append_nil, e2, kids_op (by decide), List.flatMap_cons, List.flatMap_cons, List.flatMap_nil, List.append_nil, key_flat]
  simp only [List.length_cons, List.length_append, List.length_nil]
theorem both_deep {zs : List Str} {x : PyData} (he : Ex zs 7 x) : dpt 9 (bothD x) = dpt 7 x + 2 := by
  have e1 : dpt 9 (bothD x) = 1 + mx ((kids (bothD x)).map (dpt 8)) := rfl
  have e2 : dpt 8 (.tuple [.str "+", x, .tuple [.str "key"]]) = 1 + mx ((kids (.tuple [.str "+", x, .tuple [.str "key"]])).map (dpt 7)) := rfl
  have e3 := dpt_kids he
  rw [e1, show kids (bothD x) = [.tuple [.str "+", x, .tuple [.str "key"]]] from kids_cell, List.map_cons, List.map_nil, e2, kids_op (by decide), List.map_cons, List.map_cons, List.map_nil, key_deep]
  show 1 + max (1 + max (dpt 7 x) (max 1 0)) 0 = _
  omega
section
variable {P : Program} {w : World} {K : PySem.W.Frag} {mg : Str → Option Value} {base : Heap}
abbrev s_law : Stmt := topS 25
abbrev N_law : List Str := ["_law_script", "_law_deck_here", "_law_turn", "_law_term_here", "_law_both", "_law_one"]
theorem sc_law : FnScope N_law ["_law_script"] (defScope s_law) := ⟨rfl, rfl, rfl, by decide +kernel, rfl, by decide +kernel, by decide +kernel⟩
def sp_law (K : PySem.W.Frag) : Sp := fun vs H Q _ => ∃ (a : Addr) (ns : List Int), vs = [.ref a] ∧ SqL K H a (ns.map V.int) ∧ ∀ H', Q (.bl true) H'
theorem ok_law {f f_deck f_world f_term f_right f_told f_inside f1 f2 : Addr} {fd d_deck d_world d_term d_right d_told d_inside d1 d2 : FuncData} {k : Nat} (F : Fun K "law" "law" s_law f fd)
    (G_deck : FnOk P w K mg base CX0 k f_deck d_deck ["_law_script"] (sp_deck K)) (g_deck : mg "_law_deck" = some (.ref f_deck)) (K_deck : PySem.W.keepIn K (.ref f_deck) = true) (b_deck : Binds K d_deck ["_law_script"] [])
    (G_world : FnOk P w K mg base CX0 k f_world d_world ["_law_deck_here"] sp_world) (g_world : mg "_law_world" = some (.ref f_world)) (K_world : PySem.W.keepIn K (.ref f_world) = true) (b_world : Binds K d_world ["_law_deck_here"] [])
    (G_term : FnOk P w K mg base CX0 k f_term d_term ps_term (sp_term K 5)) (g_term : mg "_law_term" = some (.ref f_term)) (K_term : PySem.W.keepIn K (.ref f_term) = true) (b_term : Binds K d_term ps_term [])
    (G_right : FnG P w K mg base CX0 k f_right d_right ["_law_thing"] (sp_right K)) (g_right : mg "_law_right" = some (.ref f_right)) (K_right : PySem.W.keepIn K (.ref f_right) = true) (b_right : Binds K d_right ["_law_thing"] [])
    (G_told : FnOk P w K mg base CX0 k f_told d_told ["_law_thing"] (sp_ans K)) (g_told : mg "_law_told" = some (.ref f_told)) (K_told : PySem.W.keepIn K (.ref f_told) = true) (b_told : Binds K d_told ["_law_thing"] [])
    (G_inside : FnOk P w K mg base CX0 k f_inside d_inside ["_law_thing"] (sp_inside K)) (g_inside : mg "_law_inside" = some (.ref f_inside)) (K_inside : PySem.W.keepIn K (.ref f_inside) = true) (b_inside : Binds K d_inside ["_law_thing"] [])
    (G1 : FnOk P w K mg base CX0 k f1 d1 ["expression"] (sp_parts_of K)) (g1 : mg "parts_of" = some (.ref f1)) (K1 : PySem.W.keepIn K (.ref f1) = true) (b1 : Binds K d1 ["expression"] [])
    (G2 : FnOk P w K mg base CX0 k f2 d2 ["expression"] (sp_depth_of K)) (g2 : mg "depth_of" = some (.ref f2)) (K2 : PySem.W.keepIn K (.ref f2) = true) (b2 : Binds K d2 ["expression"] [])
    (mrange : mg "range" = none) : FnG P w K mg base CX0 (k + 1) f fd ["_law_script"] (sp_law K) := by
  have nd := sc_law.nd
  refine ok_g F sc_law (fun vs H Q E h => ?_) (fun cdv A outer s H vs Q E hg hr h => ?_)
  · obtain ⟨a, ns, rfl, _⟩ := h
    rfl
  obtain ⟨a, ns, rfl, hS, q⟩ := h
  have hu0 : (A.deeper (envOfC "law" (defScope s_law) s.heap.objs.size f cdv)).units < cLine := by
    have := hr.units
    omega
  refine ⟨_, (pss_cons (ps_set (i := 1) nd rfl (.inl rfl) (pe_call G_deck hr (by rfl) g_deck K_deck b_deck .nil pass0 (pa_cons (pv 0) pa_nil)))
      (pss_cons (ps_for PassesOwn.never rfl (pi_range1 rfl mrange (pa_cons pe_int pa_nil)) (pg_name (i := 2) nd rfl (Or.inl rfl))
      (pss_cons (ps_set (i := 3) nd rfl (.inl rfl) (pe_call G_term hr (by rfl) g_term K_term b_term .nil pass0 (pa_cons (pv 1) (pa_cons (pe_call G_world hr (by rfl) g_world K_world b_world .nil pass0 (pa_cons (pv 1) pa_nil)) (pa_cons pe_int (pa_cons pe_int pa_nil))))))
        (pss_cons (ps_if (PW.pt (pw_or (pt_not (pt_val (pe_callG G_right hg hr (by rfl) g_right K_right b_right pass0 (pa_cons (pv 3) pa_nil)))) (pw_or1 (pt_cmpR (ZE.op_neL0 hu0) (pe_lc (own := [("_law_one", 5)]) rfl nd (pi_list (pe_call G_inside hr (by rfl) g_inside K_inside b_inside .nil pass0 (pa_cons (pv 3) pa_nil))) (blkOk_by (N := N_law) (sc := defScope s_law) (by decide +kernel)) (fun _ _ _ _ _ => (pg_name (i := 5) nd rfl (Or.inl rfl))) (tt := tNot (tB (tCall (sp_right K) [] E0 (tCons (tVar 5) tNil)))) (fun _ _ _ _ _ => (pts_one (pt_not (pt_val (pe_callG G_right hg hr (by rfl) g_right K_right b_right pass0 (pa_cons (pv 5) pa_nil)))))) (te := tVar 5) (fun _ _ _ _ _ => (pv 5))) (pe_lst pa_nil) (nomark _)))))
        (pss_one (ps_ret pe_bl))
        pss_nil)
        (pss_cons (ps_set (i := 4) nd rfl (.inl rfl) (pe_tup (pa_cons pe_str (pa_cons pe_str (pa_cons (pe_tup (pa_cons pe_str (pa_cons (pv 3) (pa_cons (pe_tup (pa_cons pe_str pa_nil)) pa_nil)))) (pa_cons pe_str pa_nil))))))
        (pss_one (ps_if (PW.pt (pw_or (pt_not (pt_val (pe_callG G_right hg hr (by rfl) g_right K_right b_right pass0 (pa_cons (pv 4) pa_nil)))) (pw_or1 (pt_cmpR (op_neD hr.units) (pe_slice sl_tup (pe_call G_told hr (by rfl) g_told K_told b_told .nil pass0 (pa_cons (pv 4) pa_nil)) po_none (po_some pe_int)) (pe_tup (pa_cons (pe_op op_add (pe_call G1 hr (by rfl) g1 K1 b1 .nil pass0 (pa_cons (pv 3) pa_nil)) pe_int) (pa_cons (pe_op op_add (pe_call G2 hr (by rfl) g2 K2 b2 .nil pass0 (pa_cons (pv 3) pa_nil)) pe_int) pa_nil))) (nomark _)))))
        (pss_one (ps_ret pe_bl))
        pss_nil))))))
      (pss_one (ps_ret pe_bl)))), ?_⟩
  refine ⟨.ref a, rfl, a, ns, rfl, hS, fun H1 d c s1 n1 D1 => ?_⟩
  refine ⟨6, rfl, by decide, by decide, ?_⟩
  refine for_range (n := 6) (fun i σ H' => ∃ y2 y3 y4 y5, σ = [some (.ref a), some (.ref d), y2, y3, y4, y5] ∧ Deck H' d c (110000 * (i : Int))) ?_ ?_ ?_
  · exact ⟨none, none, none, none, rfl, D1⟩
  · rintro i σ H2 hi ⟨y2, y3, y4, y5, rfl, D2⟩
    refine ⟨.ref d, rfl, .ref d, rfl, d, c, _, rfl, D2, by omega, fun H3 u nl zs k3 D3 nu nnl W3 => ?_⟩
    have e5 : dr 5 = 108860 := by decide
    refine ⟨d, c, u, nl, _, 5, 0, zs, rfl, D3, by omega, W3, by decide, fun H4 v x k4 D4 W4 he hv => ?_⟩
    have hb7 : bnd 7 = 55987 := by decide
    have he : Ex zs 7 x := he
    have px := flatP_len he
    have lz := W3.len
    have BX : Asked zs 7 x := ⟨he, by decide, by omega, W3.all, by omega, W3.inn⟩
    refine ⟨v, rfl, v, x, zs, 7, rfl, hv, BX, fun H5 s5 => ?_⟩
    have hv5 := he.kept (KeepT.of s5) hv
    have D5 := D4.same s5
    refine ⟨_, rfl, ite2 (fun e => (nomatch e)) (fun _ => ?_)⟩
    -- what it holds
    refine ⟨v, rfl, v, x, zs, 7, rfl, hv5, he, fun H6 p us s6 np hp hu => ⟨p, rfl, ⟨us, .inl (.inl hp)⟩, fun L nL => ?_⟩⟩
    have kk6 := ex_kid he
    refine walk_body (xs := us) (fun i H' => H' L = some (.lst []) ∧ Same H6 H') ?_ ?_ ?_ ?_
    · exact ⟨upd_same, same_upd nL⟩
    · rintro i H' _ ⟨hD, kk⟩
      exact .inl (.inl (kk _ _ hp))
    · rintro i w1 H' hui ⟨hD, kk⟩
      obtain ⟨y, hyi, huy⟩ := dpAll_at hu hui
      have ey := kk6.1 y (List.mem_of_getElem? hyi)
      have py := flatP_len ey
      refine ⟨rfl, w1, rfl, w1, y, zs, 7, rfl, ey.kept (KeepT.of kk) huy, ⟨ey, by decide, by omega, W3.all, by omega, W3.inn⟩, fun H7 s7 => ⟨_, rfl, ite2 (fun e => (nomatch e)) (fun _ => ?_)⟩⟩
      exact ⟨s7 _ _ hD, kk.trans s7⟩
    rintro H7 ⟨hL7, s7⟩
    refine ⟨Nat.zero_le _, fun em nem => ?_⟩
    have se := same_upd (o := .lst []) nem
    refine ⟨L, em, [], rfl, rfl, .inl (.inl (se _ _ hL7)), .inl (.inl upd_same), _, rfl, ite2 (fun e => (nomatch e)) (fun _ => ?_)⟩
    -- the larger one
    have s58 := s6.trans (s7.trans se)
    revert s58
    generalize upd H7 em (.lst []) = H8
    intro s58
    have hv8 := he.kept (KeepT.of s58) hv5
    have D8 := D5.same s58
    refine ⟨_, rfl, small_le (show 1 ≤ 1000 by decide), fun t1 nt1 => ⟨small_le (show 3 ≤ 1000 by decide), fun t2 nt2 => ⟨small_le (show 4 ≤ 1000 by decide), fun t3 nt3 => ?_⟩⟩⟩
    have q1 := same_upd (o := .tup [.str "key"]) nt1
    have q2 := same_upd (o := .tup [.str "+", v, .ref t1]) nt2
    have q3 := same_upd (o := .tup [.str "cell", .str "in", .ref t2, .str "in"]) nt3
    have q13 := (q1.trans q2).trans q3
    have x1 := q3 _ _ (q2 _ _ (show upd H8 t1 (.tup [.str "key"]) t1 = _ from upd_same))
    have x2 := q3 _ _ (show upd (upd H8 t1 (.tup [.str "key"])) t2 (.tup [.str "+", v, .ref t1]) t2 = _ from upd_same)
    have x3 : upd (upd (upd H8 t1 (.tup [.str "key"])) t2 (.tup [.str "+", v, .ref t1])) t3 (.tup [.str "cell", .str "in", .ref t2, .str "in"]) t3 = some (.tup [.str "cell", .str "in", .ref t2, .str "in"]) := upd_same
    revert q13 x1 x2 x3
    generalize upd (upd (upd H8 t1 (.tup [.str "key"])) t2 (.tup [.str "+", v, .ref t1])) t3 (.tup [.str "cell", .str "in", .ref t2, .str "in"]) = H9
    intro s9 x1 x2 x3
    have hv9 := he.kept (KeepT.of s9) hv8
    have D9 := D8.same s9
    have hb9 : Dp K H9 (.ref t3) (bothD x) := .tup (.inl (.inl x3)) (.cons (.str _) (.cons (.str _) (.cons (.tup (.inl (.inl x2)) (.cons (.str _) (.cons hv9 (.cons (.tup (.inl (.inl x1)) (.cons (.str _) .nil)) .nil)))) (.cons (.str _) .nil))))
    have eb := both_ex W3.inn he
    have pb := both_parts x
    have BB : Asked zs 9 (bothD x) := ⟨eb, by decide, by omega, W3.all, by omega, W3.inn⟩
    refine ⟨.ref t3, rfl, .ref t3, bothD x, zs, 9, rfl, hb9, BB, fun H10 s10 => ⟨_, rfl, ite2 (fun e => (nomatch e)) (fun _ => ?_)⟩⟩
    have hb10 := eb.kept (KeepT.of s10) hb9
    have hv10 := he.kept (KeepT.of s10) hv9
    refine ⟨.ref t3, rfl, .ref t3, bothD x, zs, 9, rfl, hb10, eb, by omega, by omega, W3.inn, fun H11 r ys cs s11 nr A hr11 => ?_⟩
    have hv11 := he.kept (KeepT.of s11) hv10
    unfold resD at hr11
    cases hr11 with
    | tup hS hA =>
    cases hA with
    | @cons g1 us1 _ _ h1 hA =>
    cases h1
    cases hA with
    | @cons g2 us2 _ _ h2 hA =>
    cases h2
    cases hA with
    | @cons g3 us3 _ _ h3 hA =>
    cases hA with
    | @cons g4 us4 _ _ h4 hA =>
    cases hA
    refine ⟨2, rfl, r, _, rfl, hS, fun e => ?_, fun sl nsl => ?_⟩
    · exact absurd (show (2 : Nat) = 4 from e.2) (by decide)
    have s12 := same_upd (o := .tup [.int ((lvls 9 [bothD x]).length : Int), .int (deepN 9 [bothD x] : Int)]) nsl
    have hsl : upd H11 sl (.tup [.int ((lvls 9 [bothD x]).length : Int), .int (deepN 9 [bothD x] : Int)]) sl = some (.tup [.int ((lvls 9 [bothD x]).length : Int), .int (deepN 9 [bothD x] : Int)]) := upd_same
    have hv12 := he.kept (KeepT.of s12) hv11
    refine ⟨v, rfl, v, x, zs, 7, rfl, hv12, he, by omega, fun H13 s13 => ⟨_, 3, rfl, rfl, ?_⟩⟩
    have hv13 := he.kept (KeepT.of s13) hv12
    refine ⟨v, rfl, v, x, zs, 7, rfl, hv13, he, by omega, fun H14 s14 => ⟨_, 2, rfl, rfl, ?_⟩⟩
    refine ⟨le2, fun t4 nt4 => ?_⟩
    have s15 := same_upd (o := .tup [.int (((lvls 7 [x]).length : Int) + 3), .int ((deepN 7 [x] : Int) + 2)]) nt4
    have e1 : ((lvls 9 [bothD x]).length : Int) = ((lvls 7 [x]).length : Int) + 3 := by
      rw [(lvls_flat 9 _).length_eq, (lvls_flat 7 x).length_eq, pb]
      omega
    have e2 : (deepN 9 [bothD x] : Int) = (deepN 7 [x] : Int) + 2 := by
      rw [deepN_one, deepN_one, both_deep he]
      omega
    have hsl15 := s15 _ _ (s14 _ _ (s13 _ _ hsl))
    rw [e1, e2] at hsl15
    refine ⟨.tuple [.int (((lvls 7 [x]).length : Int) + 3), .int ((deepN 7 [x] : Int) + 2)], .tuple [.int (((lvls 7 [x]).length : Int) + 3), .int ((deepN 7 [x] : Int) + 2)], .tup (.inl (.inl hsl15)) (.cons (.int _) (.cons (.int _) .nil)), .tup (.inl (.inl upd_same)) (.cons (.int _) (.cons (.int _) .nil)), ?_, ?_, ?_⟩
    · unfold SeqAt.shaped
      simp only [PyData.canLay0, PyData.canLayAll0, PyData.depth, PyData.depthAll, Bool.and_self, Bool.true_and]
      exact decide_eq_true (by omega)
    · unfold SeqAt.shaped
      simp only [PyData.canLay0, PyData.canLayAll0, PyData.depth, PyData.depthAll, Bool.and_self, Bool.true_and]
      exact decide_eq_true (by omega)
    have eqt : (!PyData.eqv (.tuple [.int (((lvls 7 [x]).length : Int) + 3), .int ((deepN 7 [x] : Int) + 2)]) (.tuple [.int (((lvls 7 [x]).length : Int) + 3), .int ((deepN 7 [x] : Int) + 2)])) = false := by
      simp [PyData.eqv, PyData.eqvAll]
    rw [eqt]
    refine ⟨_, rfl, ite2 (fun e => (nomatch e)) (fun _ => ?_)⟩
    exact ⟨_, _, _, _, rfl, (D9.same (s10.trans (s11.trans (s12.trans (s13.trans (s14.trans s15)))))).mono (by omega)⟩
  · rintro σ H2 ⟨y2, y3, y4, y5, rfl, D2⟩
    exact q H2
end
end K5

namespace K5
open PySem PySem.Spec PyProof.Rows L2 GR WX TX
theorem FnG.mono {P : Program} {w : World} {K : PySem.W.Frag} {mg : Str → Option Value} {base : Heap} {CX : CXT} {j k : Nat} {f : Addr} {fd : FuncData} {ps : List Str} {sp : Sp} (F : FnG P w K mg base CX j f fd ps sp) (h : j ≤ k) : FnG P w K mg base CX k f fd ps sp :=
  ⟨F.size, fun A outer s H args us vs Q E hg hr => F.go A outer s H args us vs Q E hg (hr.mono h)⟩
/-- a def stands in the text's top -/
def Has (K : PySem.W.Frag) (x : Str) (st : Stmt) : Prop := ∃ (f : Addr) (fd : FuncData), PySem.W.nsIn K mainGlobals x = some (some (.ref f)) ∧ Fun K x x st f fd
theorem has_mk {K : PySem.W.Frag} {x : Str} {st : Stmt} {f : Addr} {oc : Value} {od an : Option Addr} {osl : Array (Option Value)} {kV doc pm cdv ct : Value} (a : PySem.W.nsIn K mainGlobals x = some (some (.ref f)))
    (l : K.lookup f = some ⟨oc, od, .func (PySem.W.fnOf x x (defArgs st) (defBody st) (defScope st) .none kV doc pm an cdv ct), osl⟩) (c : PySem.W.codeIn K cdv x = true) (k : PySem.W.keepIn K (.ref f) = true) : Has K x st := ⟨f, _, a, fun_mk l c k⟩
/-- a written tuple of texts -/
def KTx (K : PySem.W.Frag) (p : Addr) (fs : List Str) : Prop := ∀ H, SqT K H p (fs.map V.str)
theorem ktx_mk {K : PySem.W.Frag} {p : Addr} {fs : List Str} {d : Option Addr} {its : Array Value} {n : Nat} {sl : Array (Option Value)} (l : K.lookup p = some ⟨.type "tuple", d, .seq its n, sl⟩) (hv : Vals (fs.map V.str) its.toList) (hs : fs.length ≤ 100) : KTx K p fs := fun H =>
  .inr ⟨_, its, n, l, rfl, rfl, by have h1 := hv.length; rw [List.length_map] at h1; have h2 : its.toList.length = its.size := Array.length_toList ..; exact small_le (by omega), hv⟩
theorem flds_mk {K : PySem.W.Frag} {w : World} {fA : Addr} {es : Array DictEntry} {n : Nat} (l : K.lookup fA = some ⟨.type "dict", none, .dict es n, #[]⟩) (kl : PySem.W.KeysLit w.params es.toList)
    {p0 : Addr} (q0 : PySem.W.nsIn K fA "int" = some (some (.ref p0))) (r0 : KTx K p0 ["value"])
    {p1 : Addr} (q1 : PySem.W.nsIn K fA "var" = some (some (.ref p1))) (r1 : KTx K p1 ["name"])
    {p2 : Addr} (q2 : PySem.W.nsIn K fA "key" = some (some (.ref p2))) (r2 : KTx K p2 [])
    {p3 : Addr} (q3 : PySem.W.nsIn K fA "let" = some (some (.ref p3))) (r3 : KTx K p3 ["position"])
    {p4 : Addr} (q4 : PySem.W.nsIn K fA "cell" = some (some (.ref p4))) (r4 : KTx K p4 ["name", "free", "name"])
    {p5 : Addr} (q5 : PySem.W.nsIn K fA "+" = some (some (.ref p5))) (r5 : KTx K p5 ["free", "free"])
    {p6 : Addr} (q6 : PySem.W.nsIn K fA "-" = some (some (.ref p6))) (r6 : KTx K p6 ["free", "free"])
    {p7 : Addr} (q7 : PySem.W.nsIn K fA "*" = some (some (.ref p7))) (r7 : KTx K p7 ["free", "free"])
    {p8 : Addr} (q8 : PySem.W.nsIn K fA "<" = some (some (.ref p8))) (r8 : KTx K p8 ["free", "free"])
    {p9 : Addr} (q9 : PySem.W.nsIn K fA "=" = some (some (.ref p9))) (r9 : KTx K p9 ["free", "free"])
    {p10 : Addr} (q10 : PySem.W.nsIn K fA "if" = some (some (.ref p10))) (r10 : KTx K p10 ["free", "free", "free"])
    {p11 : Addr} (q11 : PySem.W.nsIn K fA "at" = some (some (.ref p11))) (r11 : KTx K p11 ["free", "bound"])
    {p12 : Addr} (q12 : PySem.W.nsIn K fA "count" = some (some (.ref p12))) (r12 : KTx K p12 ["name", "extra", "bound", "bound"])
    {p13 : Addr} (q13 : PySem.W.nsIn K fA "sum" = some (some (.ref p13))) (r13 : KTx K p13 ["name", "extra", "bound", "bound", "bound"])
    {p14 : Addr} (q14 : PySem.W.nsIn K fA "most" = some (some (.ref p14))) (r14 : KTx K p14 ["name", "extra", "bound", "bound", "bound", "free"])
    {p15 : Addr} (q15 : PySem.W.nsIn K fA "first" = some (some (.ref p15))) (r15 : KTx K p15 ["name", "extra", "bound", "bound", "free"])
    : Flds K w fA := by
  intro wd fs h
  simp only [table, List.mem_cons, List.not_mem_nil, or_false, Prod.mk.injEq] at h
  rcases h with ⟨rfl, rfl⟩ | ⟨rfl, rfl⟩ | ⟨rfl, rfl⟩ | ⟨rfl, rfl⟩ | ⟨rfl, rfl⟩ | ⟨rfl, rfl⟩ | ⟨rfl, rfl⟩ | ⟨rfl, rfl⟩ | ⟨rfl, rfl⟩ | ⟨rfl, rfl⟩ | ⟨rfl, rfl⟩ | ⟨rfl, rfl⟩ | ⟨rfl, rfl⟩ | ⟨rfl, rfl⟩ | ⟨rfl, rfl⟩ | ⟨rfl, rfl⟩
  · exact ⟨p0, ⟨es, n, _, l, kl, q0, rfl⟩, r0⟩
  · exact ⟨p1, ⟨es, n, _, l, kl, q1, rfl⟩, r1⟩
  · exact ⟨p2, ⟨es, n, _, l, kl, q2, rfl⟩, r2⟩
  · exact ⟨p3, ⟨es, n, _, l, kl, q3, rfl⟩, r3⟩
  · exact ⟨p4, ⟨es, n, _, l, kl, q4, rfl⟩, r4⟩
  · exact ⟨p5, ⟨es, n, _, l, kl, q5, rfl⟩, r5⟩
  · exact ⟨p6, ⟨es, n, _, l, kl, q6, rfl⟩, r6⟩
  · exact ⟨p7, ⟨es, n, _, l, kl, q7, rfl⟩, r7⟩
  · exact ⟨p8, ⟨es, n, _, l, kl, q8, rfl⟩, r8⟩
  · exact ⟨p9, ⟨es, n, _, l, kl, q9, rfl⟩, r9⟩
  · exact ⟨p10, ⟨es, n, _, l, kl, q10, rfl⟩, r10⟩
  · exact ⟨p11, ⟨es, n, _, l, kl, q11, rfl⟩, r11⟩
  · exact ⟨p12, ⟨es, n, _, l, kl, q12, rfl⟩, r12⟩
  · exact ⟨p13, ⟨es, n, _, l, kl, q13, rfl⟩, r13⟩
  · exact ⟨p14, ⟨es, n, _, l, kl, q14, rfl⟩, r14⟩
  · exact ⟨p15, ⟨es, n, _, l, kl, q15, rfl⟩, r15⟩
theorem all_mk {P : Program} {w : World} {K : PySem.W.Frag} {h : Heap} {mg : Str → Option Value} {fa : Addr} (X : K.In h) (G : h.Ns mainGlobals mg) (hfa : mg "law" = some (.ref fa))
    (X_contained : Has K "contained" s_contained)
    (X_contained_of : Has K "contained_of" s_contained_of)
    (X_one_deeper : Has K "one_deeper" s_one_deeper)
    (X_all_parts : Has K "all_parts" s_all_parts)
    (X_parts_of : Has K "parts_of" s_parts_of)
    (X_depth_of : Has K "depth_of" s_depth_of)
    (X_variables_of : Has K "variables_of" s_variables_of)
    (X_columns_of : Has K "columns_of" s_columns_of)
    (X_law_deck : Has K "_law_deck" s_law_deck)
    (X_law_draw : Has K "_law_draw" s_law_draw)
    (X_law_pick : Has K "_law_pick" s_law_pick)
    (X_law_names : Has K "_law_names" s_law_names)
    (X_law_world : Has K "_law_world" s_law_world)
    (X_law_leaf : Has K "_law_leaf" s_law_leaf)
    (X_law_rows : Has K "_law_rows" s_law_rows)
    (X_law_term : Has K "_law_term" s_law_term)
    (X_law_inside : Has K "_law_inside" s_law_inside)
    (X_law_due : Has K "_law_due" s_law_due)
    (X_law_told : Has K "_law_told" s_law_told)
    (X_law_right : Has K "_law_right" s_law_right)
    (X_law : Has K "law" s_law)
    (z_list : PySem.W.nsIn K mainGlobals "list" = some none) (z_sum : PySem.W.nsIn K mainGlobals "sum" = some none) (z_len : PySem.W.nsIn K mainGlobals "len" = some none) (z_range : PySem.W.nsIn K mainGlobals "range" = some none) (z_repr : PySem.W.nsIn K mainGlobals "repr" = some none) (z_tuple : PySem.W.nsIn K mainGlobals "tuple" = some none) (z_zip : PySem.W.nsIn K mainGlobals "zip" = some none) (z_sorted : PySem.W.nsIn K mainGlobals "sorted" = some none) (z_max : PySem.W.nsIn K mainGlobals "max" = some none) (z_set : PySem.W.nsIn K mainGlobals "set" = some none)
    
    {fA : Addr} (z_FIELDS : PySem.W.nsIn K mainGlobals "FIELDS" = some (some (.ref fA))) (T_FIELDS : Flds K w fA) {aP : Addr} (z_ALL : PySem.W.nsIn K mainGlobals "ALL_PARTS" = some (some (.ref aP))) (T_ALL : KTx K aP W2) {aA : Addr} (z_AGG : PySem.W.nsIn K mainGlobals "AGGREGATES" = some (some (.ref aA))) (T_AGG : AggK K aA)
    : ∃ fd : FuncData, (∀ (s : Shared) (v : Value), BindsTo s fd ⟨[v], []⟩ [("_law_script", v)]) ∧ ∀ base : Heap, K.In base → base.Ns mainGlobals mg → FnG P w K mg base CX0 15 fa fd ["_law_script"] (sp_law K) := by
  obtain ⟨fcontained, dcontained, acontained, Fcontained⟩ := X_contained
  have gcontained := PySem.W.mg_of X G acontained
  have bcontained : Binds K dcontained ["expression"] [] := Fcontained.binds (ps := ["expression"]) fun _ _ _ _ _ _ us hl => match us, hl with | [_], _ => rfl
  obtain ⟨fcontained_of, dcontained_of, acontained_of, Fcontained_of⟩ := X_contained_of
  have gcontained_of := PySem.W.mg_of X G acontained_of
  have bcontained_of : Binds K dcontained_of ["expression", "wanted"] [] := Fcontained_of.binds (ps := ["expression", "wanted"]) fun _ _ _ _ _ _ us hl => match us, hl with | [_, _], _ => rfl
  obtain ⟨fone_deeper, done_deeper, aone_deeper, Fone_deeper⟩ := X_one_deeper
  have gone_deeper := PySem.W.mg_of X G aone_deeper
  have bone_deeper : Binds K done_deeper ["expressions"] [] := Fone_deeper.binds (ps := ["expressions"]) fun _ _ _ _ _ _ us hl => match us, hl with | [_], _ => rfl
  obtain ⟨fall_parts, dall_parts, aall_parts, Fall_parts⟩ := X_all_parts
  have gall_parts := PySem.W.mg_of X G aall_parts
  have ball_parts : Binds K dall_parts ["expression"] [] := Fall_parts.binds (ps := ["expression"]) fun _ _ _ _ _ _ us hl => match us, hl with | [_], _ => rfl
  obtain ⟨fparts_of, dparts_of, aparts_of, Fparts_of⟩ := X_parts_of
  have gparts_of := PySem.W.mg_of X G aparts_of
  have bparts_of : Binds K dparts_of ["expression"] [] := Fparts_of.binds (ps := ["expression"]) fun _ _ _ _ _ _ us hl => match us, hl with | [_], _ => rfl
  obtain ⟨fdepth_of, ddepth_of, adepth_of, Fdepth_of⟩ := X_depth_of
  have gdepth_of := PySem.W.mg_of X G adepth_of
  have bdepth_of : Binds K ddepth_of ["expression"] [] := Fdepth_of.binds (ps := ["expression"]) fun _ _ _ _ _ _ us hl => match us, hl with | [_], _ => rfl
  obtain ⟨fvariables_of, dvariables_of, avariables_of, Fvariables_of⟩ := X_variables_of
  have gvariables_of := PySem.W.mg_of X G avariables_of
  have bvariables_of : Binds K dvariables_of ["expression"] [] := Fvariables_of.binds (ps := ["expression"]) fun _ _ _ _ _ _ us hl => match us, hl with | [_], _ => rfl
  obtain ⟨fcolumns_of, dcolumns_of, acolumns_of, Fcolumns_of⟩ := X_columns_of
  have gcolumns_of := PySem.W.mg_of X G acolumns_of
  have bcolumns_of : Binds K dcolumns_of ["expression"] [] := Fcolumns_of.binds (ps := ["expression"]) fun _ _ _ _ _ _ us hl => match us, hl with | [_], _ => rfl
  obtain ⟨f_law_deck, d_law_deck, a_law_deck, F_law_deck⟩ := X_law_deck
  have g_law_deck := PySem.W.mg_of X G a_law_deck
  have b_law_deck : Binds K d_law_deck ["_law_script"] [] := F_law_deck.binds (ps := ["_law_script"]) fun _ _ _ _ _ _ us hl => match us, hl with | [_], _ => rfl
  obtain ⟨f_law_draw, d_law_draw, a_law_draw, F_law_draw⟩ := X_law_draw
  have g_law_draw := PySem.W.mg_of X G a_law_draw
  have b_law_draw : Binds K d_law_draw ["_law_deck_here", "_law_most"] [] := F_law_draw.binds (ps := ["_law_deck_here", "_law_most"]) fun _ _ _ _ _ _ us hl => match us, hl with | [_, _], _ => rfl
  obtain ⟨f_law_pick, d_law_pick, a_law_pick, F_law_pick⟩ := X_law_pick
  have g_law_pick := PySem.W.mg_of X G a_law_pick
  have b_law_pick : Binds K d_law_pick ["_law_deck_here", "_law_some"] [] := F_law_pick.binds (ps := ["_law_deck_here", "_law_some"]) fun _ _ _ _ _ _ us hl => match us, hl with | [_, _], _ => rfl
  obtain ⟨f_law_names, d_law_names, a_law_names, F_law_names⟩ := X_law_names
  have g_law_names := PySem.W.mg_of X G a_law_names
  have b_law_names : Binds K d_law_names ["_law_deck_here", "_law_many"] [] := F_law_names.binds (ps := ["_law_deck_here", "_law_many"]) fun _ _ _ _ _ _ us hl => match us, hl with | [_, _], _ => rfl
  obtain ⟨f_law_world, d_law_world, a_law_world, F_law_world⟩ := X_law_world
  have g_law_world := PySem.W.mg_of X G a_law_world
  have b_law_world : Binds K d_law_world ["_law_deck_here"] [] := F_law_world.binds (ps := ["_law_deck_here"]) fun _ _ _ _ _ _ us hl => match us, hl with | [_], _ => rfl
  obtain ⟨f_law_leaf, d_law_leaf, a_law_leaf, F_law_leaf⟩ := X_law_leaf
  have g_law_leaf := PySem.W.mg_of X G a_law_leaf
  have b_law_leaf : Binds K d_law_leaf ["_law_deck_here", "_law_world_here"] [] := F_law_leaf.binds (ps := ["_law_deck_here", "_law_world_here"]) fun _ _ _ _ _ _ us hl => match us, hl with | [_, _], _ => rfl
  obtain ⟨f_law_rows, d_law_rows, a_law_rows, F_law_rows⟩ := X_law_rows
  have g_law_rows := PySem.W.mg_of X G a_law_rows
  have b_law_rows : Binds K d_law_rows ["_law_deck_here", "_law_world_here", "_law_deep", "_law_inside_here"] [] := F_law_rows.binds (ps := ["_law_deck_here", "_law_world_here", "_law_deep", "_law_inside_here"]) fun _ _ _ _ _ _ us hl => match us, hl with | [_, _, _, _], _ => rfl
  obtain ⟨f_law_term, d_law_term, a_law_term, F_law_term⟩ := X_law_term
  have g_law_term := PySem.W.mg_of X G a_law_term
  have b_law_term : Binds K d_law_term ["_law_deck_here", "_law_world_here", "_law_deep", "_law_inside_here"] [] := F_law_term.binds (ps := ["_law_deck_here", "_law_world_here", "_law_deep", "_law_inside_here"]) fun _ _ _ _ _ _ us hl => match us, hl with | [_, _, _, _], _ => rfl
  obtain ⟨f_law_inside, d_law_inside, a_law_inside, F_law_inside⟩ := X_law_inside
  have g_law_inside := PySem.W.mg_of X G a_law_inside
  have b_law_inside : Binds K d_law_inside ["_law_thing"] [] := F_law_inside.binds (ps := ["_law_thing"]) fun _ _ _ _ _ _ us hl => match us, hl with | [_], _ => rfl
  obtain ⟨f_law_due, d_law_due, a_law_due, F_law_due⟩ := X_law_due
  have g_law_due := PySem.W.mg_of X G a_law_due
  have b_law_due : Binds K d_law_due ["_law_thing"] [] := F_law_due.binds (ps := ["_law_thing"]) fun _ _ _ _ _ _ us hl => match us, hl with | [_], _ => rfl
  obtain ⟨f_law_told, d_law_told, a_law_told, F_law_told⟩ := X_law_told
  have g_law_told := PySem.W.mg_of X G a_law_told
  have b_law_told : Binds K d_law_told ["_law_thing"] [] := F_law_told.binds (ps := ["_law_thing"]) fun _ _ _ _ _ _ us hl => match us, hl with | [_], _ => rfl
  obtain ⟨f_law_right, d_law_right, a_law_right, F_law_right⟩ := X_law_right
  have g_law_right := PySem.W.mg_of X G a_law_right
  have b_law_right : Binds K d_law_right ["_law_thing"] [] := F_law_right.binds (ps := ["_law_thing"]) fun _ _ _ _ _ _ us hl => match us, hl with | [_], _ => rfl
  obtain ⟨f_law0, d_law0, a_law0, F_law0⟩ := X_law
  have e := hfa.symm.trans (PySem.W.mg_of X G a_law0)
  cases e
  have mlist := PySem.W.mg_none_of X G z_list
  have msum := PySem.W.mg_none_of X G z_sum
  have mlen := PySem.W.mg_none_of X G z_len
  have mrange := PySem.W.mg_none_of X G z_range
  have mrepr := PySem.W.mg_none_of X G z_repr
  have mtuple := PySem.W.mg_none_of X G z_tuple
  have mzip := PySem.W.mg_none_of X G z_zip
  have msorted := PySem.W.mg_none_of X G z_sorted
  have mmax := PySem.W.mg_none_of X G z_max
  have mset := PySem.W.mg_none_of X G z_set
  have mFIELDS := PySem.W.mg_of X G z_FIELDS
  have mAGG := PySem.W.mg_of X G z_AGG
  have mALL := PySem.W.mg_of X G z_ALL
  obtain ⟨oc, od, kV, doc, pm, an, cdv, ct, osl, hfd, _, _⟩ := F_law0.ex
  refine ⟨d_law0, fun s v => ?_, fun base _ _ => ?_⟩
  · subst hfd
    exact .of_eq rfl
  · have Gdraw := ok_draw (P := P) (w := w) (mg := mg) (base := base) (k := 0) F_law_draw
    have Gpick := ok_pick (k := 1) F_law_pick Gdraw g_law_draw F_law_draw.kp b_law_draw mlen
    have Gnames := ok_names (k := 2) F_law_names (Gdraw.mono (by decide)) g_law_draw F_law_draw.kp b_law_draw Gpick g_law_pick F_law_pick.kp b_law_pick mrange mlen
    have Gworld := ok_world (k := 3) F_law_world (Gdraw.mono (by decide)) g_law_draw F_law_draw.kp b_law_draw (Gpick.mono (by decide)) g_law_pick F_law_pick.kp b_law_pick Gnames g_law_names F_law_names.kp b_law_names
    have Gdeck := ok_deck (P := P) (w := w) (mg := mg) (base := base) (k := 0) F_law_deck mlist msum mlen
    have Gleaf := ok_leaf (k := 2) F_law_leaf (Gdraw.mono (by decide)) g_law_draw F_law_draw.kp b_law_draw Gpick g_law_pick F_law_pick.kp b_law_pick
    have Gterm := ok_terms (k := 3) F_law_term F_law_rows (Gdraw.mono (by decide)) g_law_draw F_law_draw.kp b_law_draw (Gpick.mono (by decide)) g_law_pick F_law_pick.kp b_law_pick Gleaf g_law_leaf F_law_leaf.kp b_law_leaf g_law_rows F_law_rows.kp b_law_rows g_law_term F_law_term.kp b_law_term mrange mtuple 5
    have Gof := ok_contained_of (P := P) (w := w) (mg := mg) (base := base) (k := 0) Fcontained_of mFIELDS T_FIELDS mzip
    have Gcon := ok_contained (k := 1) Fcontained Gof gcontained_of Fcontained_of.kp bcontained_of mALL T_ALL
    have Gone := ok_one_deeper (k := 2) Fone_deeper Gcon gcontained Fcontained.kp bcontained
    have Gall := ok_all_parts (k := 3) Fall_parts Gone gone_deeper Fone_deeper.kp bone_deeper
    have Gparts := ok_parts_of (k := 4) Fparts_of Gall gall_parts Fall_parts.kp ball_parts mlen
    have Gdeep := ok_depth_of (k := 3) Fdepth_of Gone gone_deeper Fone_deeper.kp bone_deeper
    have Gvars := ok_variables_of (k := 4) Fvariables_of Gall gall_parts Fall_parts.kp ball_parts msorted mtuple
    have Gcols := ok_columns_of (k := 4) Fcolumns_of Gall gall_parts Fall_parts.kp ball_parts mAGG T_AGG msorted mtuple
    have Ginside := ok_inside (P := P) (w := w) (mg := mg) (base := base) (k := 0) F_law_inside mlist
    have Gdue := ok_due (k := 1) F_law_due Ginside g_law_inside F_law_inside.kp b_law_inside mmax msorted mtuple mset
    have Gtold := ok_told (k := 5) F_law_told Gparts gparts_of Fparts_of.kp bparts_of (Gdeep.mono (by decide)) gdepth_of Fdepth_of.kp bdepth_of Gvars gvariables_of Fvariables_of.kp bvariables_of Gcols gcolumns_of Fcolumns_of.kp bcolumns_of
    have Gright := ok_right (k := 6) F_law_right (Gparts.mono (by decide)) gparts_of Fparts_of.kp bparts_of (Gdeep.mono (by decide)) gdepth_of Fdepth_of.kp bdepth_of (Gdue.mono (by decide)) g_law_due F_law_due.kp b_law_due Gtold g_law_told F_law_told.kp b_law_told (Ginside.mono (by decide)) g_law_inside F_law_inside.kp b_law_inside mrepr msum mmax
    exact ok_law (k := 14) F_law0 (Gdeck.mono (by decide)) g_law_deck F_law_deck.kp b_law_deck (Gworld.mono (by decide)) g_law_world F_law_world.kp b_law_world (Gterm.mono (by decide)) g_law_term F_law_term.kp b_law_term (Gright.mono (by decide)) g_law_right F_law_right.kp b_law_right (Gtold.mono (by decide)) g_law_told F_law_told.kp b_law_told (Ginside.mono (by decide)) g_law_inside F_law_inside.kp b_law_inside (Gparts.mono (by decide)) gparts_of Fparts_of.kp bparts_of (Gdeep.mono (by decide)) gdepth_of Fdepth_of.kp bdepth_of mrange
end K5
open PySem PySem.W PyProof.Rows
set_option maxHeartbeats 0 in
theorem PySem.Challenge.cw_lookdone_k05_parts_depths_variables_colu_holds : PySem.Challenge.rw_lookdone_k05_parts_depths_variables_colu.Holds := by
  w_on; o_law; k_head; (case hw => w_witness2)
  k_fill
  refine GR.walk_g (l := PySem.Challenge.rw_lookdone_k05_parts_depths_variables_colu) (n := 63) (k := 15) (x := "_law_script") (sp := K5.sp_law) rfl (by decide) rfl ⟨rfl, by decide, by decide⟩ (fun w h Y => PySem.W.kIn_of Y) ?F (fun _ _ a ns hl _ hS => ⟨a, ns, rfl, hS, fun _ => rfl⟩)
  case F =>
    intro w mg fa h KX G hmg
    refine' K5.all_mk KX G hmg (K5.has_mk ?a_contained ?l_contained ?c_contained ?k_contained) (K5.has_mk ?a_contained_of ?l_contained_of ?c_contained_of ?k_contained_of) (K5.has_mk ?a_one_deeper ?l_one_deeper ?c_one_deeper ?k_one_deeper) (K5.has_mk ?a_all_parts ?l_all_parts ?c_all_parts ?k_all_parts) (K5.has_mk ?a_parts_of ?l_parts_of ?c_parts_of ?k_parts_of) (K5.has_mk ?a_depth_of ?l_depth_of ?c_depth_of ?k_depth_of) (K5.has_mk ?a_variables_of ?l_variables_of ?c_variables_of ?k_variables_of) (K5.has_mk ?a_columns_of ?l_columns_of ?c_columns_of ?k_columns_of) (K5.has_mk ?a_law_deck ?l_law_deck ?c_law_deck ?k_law_deck) (K5.has_mk ?a_law_draw ?l_law_draw ?c_law_draw ?k_law_draw) (K5.has_mk ?a_law_pick ?l_law_pick ?c_law_pick ?k_law_pick) (K5.has_mk ?a_law_names ?l_law_names ?c_law_names ?k_law_names) (K5.has_mk ?a_law_world ?l_law_world ?c_law_world ?k_law_world) (K5.has_mk ?a_law_leaf ?l_law_leaf ?c_law_leaf ?k_law_leaf) (K5.has_mk ?a_law_rows ?l_law_rows ?c_law_rows ?k_law_rows) (K5.has_mk ?a_law_term ?l_law_term ?c_law_term ?k_law_term) (K5.has_mk ?a_law_inside ?l_law_inside ?c_law_inside ?k_law_inside) (K5.has_mk ?a_law_due ?l_law_due ?c_law_due ?k_law_due) (K5.has_mk ?a_law_told ?l_law_told ?c_law_told ?k_law_told) (K5.has_mk ?a_law_right ?l_law_right ?c_law_right ?k_law_right) (K5.has_mk ?a_law ?l_law ?c_law ?k_law) ?z_list ?z_sum ?z_len ?z_range ?z_repr ?z_tuple ?z_zip ?z_sorted ?z_max ?z_set ?z_FIELDS (K5.flds_mk ?l_F ?kl_F ?q_0 (K5.ktx_mk ?l_0 ?v_0 (by decide)) ?q_1 (K5.ktx_mk ?l_1 ?v_1 (by decide)) ?q_2 (K5.ktx_mk ?l_2 ?v_2 (by decide)) ?q_3 (K5.ktx_mk ?l_3 ?v_3 (by decide)) ?q_4 (K5.ktx_mk ?l_4 ?v_4 (by decide)) ?q_5 (K5.ktx_mk ?l_5 ?v_5 (by decide)) ?q_6 (K5.ktx_mk ?l_6 ?v_6 (by decide)) ?q_7 (K5.ktx_mk ?l_7 ?v_7 (by decide)) ?q_8 (K5.ktx_mk ?l_8 ?v_8 (by decide)) ?q_9 (K5.ktx_mk ?l_9 ?v_9 (by decide)) ?q_10 (K5.ktx_mk ?l_10 ?v_10 (by decide)) ?q_11 (K5.ktx_mk ?l_11 ?v_11 (by decide)) ?q_12 (K5.ktx_mk ?l_12 ?v_12 (by decide)) ?q_13 (K5.ktx_mk ?l_13 ?v_13 (by decide)) ?q_14 (K5.ktx_mk ?l_14 ?v_14 (by decide)) ?q_15 (K5.ktx_mk ?l_15 ?v_15 (by decide))) ?z_ALL (K5.ktx_mk (fs := ["free", "bound"]) ?l_P ?v_P (by decide)) ?z_AGG (K5.ktx_mk (fs := ["count", "sum", "most", "first"]) ?l_A ?v_A (by decide))
    (case a_contained => k_is)
    (case l_contained => k_is)
    (case c_contained => k_is)
    (case k_contained => k_is)
    (case a_contained_of => k_is)
    (case l_contained_of => k_is)
    (case c_contained_of => k_is)
    (case k_contained_of => k_is)
    (case a_one_deeper => k_is)
    (case l_one_deeper => k_is)
    (case c_one_deeper => k_is)
    (case k_one_deeper => k_is)
    (case a_all_parts => k_is)
    (case l_all_parts => k_is)
    (case c_all_parts => k_is)
    (case k_all_parts => k_is)
    (case a_parts_of => k_is)
    (case l_parts_of => k_is)
    (case c_parts_of => k_is)
    (case k_parts_of => k_is)
    (case a_depth_of => k_is)
    (case l_depth_of => k_is)
    (case c_depth_of => k_is)
    (case k_depth_of => k_is)
    (case a_variables_of => k_is)
    (case l_variables_of => k_is)
    (case c_variables_of => k_is)
    (case k_variables_of => k_is)
    (case a_columns_of => k_is)
    (case l_columns_of => k_is)
    (case c_columns_of => k_is)
    (case k_columns_of => k_is)
    (case a_law_deck => k_is)
    (case l_law_deck => k_is)
    (case c_law_deck => k_is)
    (case k_law_deck => k_is)
    (case a_law_draw => k_is)
    (case l_law_draw => k_is)
    (case c_law_draw => k_is)
    (case k_law_draw => k_is)
    (case a_law_pick => k_is)
    (case l_law_pick => k_is)
    (case c_law_pick => k_is)
    (case k_law_pick => k_is)
    (case a_law_names => k_is)
    (case l_law_names => k_is)
    (case c_law_names => k_is)
    (case k_law_names => k_is)
    (case a_law_world => k_is)
    (case l_law_world => k_is)
    (case c_law_world => k_is)
    (case k_law_world => k_is)
    (case a_law_leaf => k_is)
    (case l_law_leaf => k_is)
    (case c_law_leaf => k_is)
    (case k_law_leaf => k_is)
    (case a_law_rows => k_is)
    (case l_law_rows => k_is)
    (case c_law_rows => k_is)
    (case k_law_rows => k_is)
    (case a_law_term => k_is)
    (case l_law_term => k_is)
    (case c_law_term => k_is)
    (case k_law_term => k_is)
    (case a_law_inside => k_is)
    (case l_law_inside => k_is)
    (case c_law_inside => k_is)
    (case k_law_inside => k_is)
    (case a_law_due => k_is)
    (case l_law_due => k_is)
    (case c_law_due => k_is)
    (case k_law_due => k_is)
    (case a_law_told => k_is)
    (case l_law_told => k_is)
    (case c_law_told => k_is)
    (case k_law_told => k_is)
    (case a_law_right => k_is)
    (case l_law_right => k_is)
    (case c_law_right => k_is)
    (case k_law_right => k_is)
    (case a_law => k_is)
    (case l_law => k_is)
    (case c_law => k_is)
    (case k_law => k_is)
    (case z_list => k_is)
    (case z_sum => k_is)
    (case z_len => k_is)
    (case z_range => k_is)
    (case z_repr => k_is)
    (case z_tuple => k_is)
    (case z_zip => k_is)
    (case z_sorted => k_is)
    (case z_max => k_is)
    (case z_set => k_is)
    (case z_FIELDS => k_is)
    (case l_F => k_is)
    (case kl_F => k_keys)
    (case q_0 => k_is)
    (case l_0 => k_is)
    (case v_0 => repeat (first | exact .nil | refine .cons ⟨_, rfl⟩ ?_))
    (case q_1 => k_is)
    (case l_1 => k_is)
    (case v_1 => repeat (first | exact .nil | refine .cons ⟨_, rfl⟩ ?_))
    (case q_2 => k_is)
    (case l_2 => k_is)
    (case v_2 => repeat (first | exact .nil | refine .cons ⟨_, rfl⟩ ?_))
    (case q_3 => k_is)
    (case l_3 => k_is)
    (case v_3 => repeat (first | exact .nil | refine .cons ⟨_, rfl⟩ ?_))
    (case q_4 => k_is)
    (case l_4 => k_is)
    (case v_4 => repeat (first | exact .nil | refine .cons ⟨_, rfl⟩ ?_))
    (case q_5 => k_is)
    (case l_5 => k_is)
    (case v_5 => repeat (first | exact .nil | refine .cons ⟨_, rfl⟩ ?_))
    (case q_6 => k_is)
    (case l_6 => k_is)
    (case v_6 => repeat (first | exact .nil | refine .cons ⟨_, rfl⟩ ?_))
    (case q_7 => k_is)
    (case l_7 => k_is)
    (case v_7 => repeat (first | exact .nil | refine .cons ⟨_, rfl⟩ ?_))
    (case q_8 => k_is)
    (case l_8 => k_is)
    (case v_8 => repeat (first | exact .nil | refine .cons ⟨_, rfl⟩ ?_))
    (case q_9 => k_is)
    (case l_9 => k_is)
    (case v_9 => repeat (first | exact .nil | refine .cons ⟨_, rfl⟩ ?_))
    (case q_10 => k_is)
    (case l_10 => k_is)
    (case v_10 => repeat (first | exact .nil | refine .cons ⟨_, rfl⟩ ?_))
    (case q_11 => k_is)
    (case l_11 => k_is)
    (case v_11 => repeat (first | exact .nil | refine .cons ⟨_, rfl⟩ ?_))
    (case q_12 => k_is)
    (case l_12 => k_is)
    (case v_12 => repeat (first | exact .nil | refine .cons ⟨_, rfl⟩ ?_))
    (case q_13 => k_is)
    (case l_13 => k_is)
    (case v_13 => repeat (first | exact .nil | refine .cons ⟨_, rfl⟩ ?_))
    (case q_14 => k_is)
    (case l_14 => k_is)
    (case v_14 => repeat (first | exact .nil | refine .cons ⟨_, rfl⟩ ?_))
    (case q_15 => k_is)
    (case l_15 => k_is)
    (case v_15 => repeat (first | exact .nil | refine .cons ⟨_, rfl⟩ ?_))
    (case z_ALL => k_is)
    (case l_P => k_is)
    (case v_P => repeat (first | exact .nil | refine .cons ⟨_, rfl⟩ ?_))
    (case z_AGG => k_is)
    (case l_A => k_is)
    (case v_A => repeat (first | exact .nil | refine .cons ⟨_, rfl⟩ ?_))
