import PyProof.Rows.All
import Wide.All
import OpenK.AllK
import Wide.FinOn
import HandS.ForMost
import HandS.IsInst
import HandS.TupAny
import HandS.TupMul
import HandS.Wide
import PyProof.ReprRoads
import KE.GoesEnum
import PyProof.EqKinds
import HandS.FStrTup
import PyProof.FitsInt
import HandS.Walk
import PyProof.NeKinds
import HandS.ListItems
import KE.KItemsList
import PyProof.ZipIter
import KE.KDictPairs
import HandS.Style
import HandS.Sort
import HandS.SortRule
import HandS.Deep
import HandS.SortInts
import HandS.More
import HandS.DictComp
import HandS.Dict
import PyProof.Rows.SortKeyStr
import PyProof.P3In
import KE.KDictZip
import HandS.Flow
import HandS.Conv
import HandS.WordsDict
import HandS.DeepEq
import PySem.Challenge.RW_heldapart_k08_whole_lost_cells_and_claus
set_option Elab.async false
set_option linter.all false
set_option maxRecDepth 100000
set_option maxHeartbeats 4000000
/-! Calls that carry the word «no repr is under way», so that repr of data is known. -/
namespace L2.Hx
open PySem PySem.Spec PyProof.Rows

/-- FnOk, for callers around whom no guard stands -/
structure FnG (P : Program) (w : World) (K : PySem.W.Frag) (mg : Str → Option Value) (base : Heap) (CX : CXT) (k : Nat) (f : Addr) (fd : FuncData) (ps : List Str) (sp : Sp) : Prop where
  ln : ∀ vs H Q E, sp vs H Q E → vs.length = ps.length
  go : ∀ (A : Around) (outer : List Env) (s : Shared) (H : Hp) (args : Args) (us : List Value) (vs : List V) (Q : VK) (E : XK), A.guards = some [] → Room k A → Env0 P w K mg base A outer s H →
    BindsTo s fd args (ps.zip us) → Vals vs us → sp vs H Q E → codeAny (model P w) A (.call (.ref f) args) (CR CX outer P w H s Q E) s

section
variable {P : Program} {w : World} {K : PySem.W.Frag} {mg : Str → Option Value} {base : Heap} {CX : CXT} {f : Addr} {fd : FuncData} {ps : List Str} {sp : Sp} {k : Nat}
theorem FnG.ofOk (F : FnOk P w K mg base CX k f fd ps sp) : FnG P w K mg base CX k f fd ps sp :=
  ⟨F.len, fun A outer s H args us vs Q E _ hr e b r h => F.run A outer s H args us vs Q E hr e b r h⟩
theorem FnG.mono {j : Nat} (F : FnG P w K mg base CX j f fd ps sp) (h : j ≤ k) : FnG P w K mg base CX k f fd ps sp :=
  ⟨F.ln, fun A outer s H args us vs Q E hg hr => F.go A outer s H args us vs Q E hg (hr.mono h)⟩
theorem FnG.imp {sp' : Sp} (F : FnG P w K mg base CX k f fd ps sp) (h : ∀ vs H Q E, sp' vs H Q E → sp vs H Q E) : FnG P w K mg base CX k f fd ps sp' :=
  ⟨fun vs H Q E q => F.ln vs H Q E (h _ _ _ _ q), fun A outer s H args us vs Q E hg hr e b r q => F.go A outer s H args us vs Q E hg hr e b r (h _ _ _ _ q)⟩
/-- a def by its body -/
theorem fng_of {name qual : Str} {params : Arguments} {body : List Stmt} {scope : Scope} {dV kV doc pm cdv ct oc : Value} {an od : Option Addr} {osl : Array (Option Value)} {N : List Str}
    (lk : K.lookup f = some ⟨oc, od, .func (PySem.W.fnOf name qual params body scope dV kV doc pm an cdv ct), osl⟩) (hcd : PySem.W.codeIn K cdv qual = true) (S : FnScope N ps scope)
    (hn : ∀ vs H Q E, sp vs H Q E → vs.length = ps.length)
    (hbody : ∀ (A : Around) (outer : List Env) (s : Shared) (H : Hp) (vs : List V) (Q : VK) (E : XK), A.guards = some [] → Room k (A.deeper (envOfC qual scope s.heap.objs.size f cdv)) → sp vs H Q E →
      ∃ t, PSs (cxOf CX P w K mg base N qual scope f cdv A outer s H E) body t ∧ t { nx := fun _ H' => Q .non H', rt := Q } (start N vs) H) :
    FnG P w K mg base CX (k + 1) f (PySem.W.fnOf name qual params body scope dV kV doc pm an cdv ct) ps sp := by
  refine ⟨hn, fun A outer s H args us vs Q E hgd hr en hbd rv hsp => ?_⟩
  have hlen := hn _ _ _ _ hsp
  have kin : K.In s.heap := en.mod.kin.keeps fun b o q => (en.bs b o q).1
  have nol : s.heap.NoLimit := en.mod.nolimit.keeps fun b o q => (en.bs b o q).1
  have kinds : ∀ y ∈ ps.zip us, scope.names.lookup y.1 = some .local ∨ (scope.names.lookup y.1 = some .cell ∧ ((cellsFrom (s.heap.objs.size + 1) scope.names []).lookup y.1).isSome = true) := fun ⟨n, v⟩ hy =>
    (S.par n (List.of_mem_zip hy).1).elim (fun z => .inl z) fun z => .inr ⟨z, PySem.W.cellsFrom_some _ _ _ (.inl z)⟩
  refine codeAny_call_function hr.depth (kin _ _ lk) rfl S.co S.gen rfl (PySem.W.codeRec_of kin hcd) (hbd _ _ _ _ ?_)
  refine wpAny_newFunctionEnv_cells S.kind kinds fun env he s1 x => ?_
  subst he
  refine ⟨nol.keeps x.toInCall.keep, codeAny_func ?_⟩
  obtain ⟨t, ht, hq⟩ := hbody A outer s H vs Q E hgd (hr.deeper _) hsp
  have J0 := inv_start (CX := CX) (P := P) (w := w) (K := K) (mg := mg) (base := base) (E := E) S hr.hd en hlen rv x
  refine wpAny_mono (ht.run [] s1 (start N vs) H _ J0 hq) (fun fl s2 hs => ?_) fun e s2 hs => hs
  cases fl with
  | ret u => obtain ⟨v, σ', H', J, r, q⟩ := hs; exact ⟨v, H', J.os, J.bare, J.base, J.hok, r, q⟩
  | next => obtain ⟨σ', H', J, q⟩ := hs; exact ⟨V.non, H', J.os, J.bare, J.base, J.hok, rfl, q⟩
  | brk => obtain ⟨_, _, _, q⟩ := hs; exact q.elim
  | cont => obtain ⟨_, _, _, q⟩ := hs; exact q.elim
/-- a def of the text that lets nothing out -/
theorem okG {x qual : Str} {st : Stmt} {N : List Str} (F : Fun K x qual st f fd) (S : FnScope N ps (defScope st)) (hn : ∀ vs H Q E, sp vs H Q E → vs.length = ps.length)
    (hbody : ∀ (cdv : Value) (A : Around) (outer : List Env) (s : Shared) (H : Hp) (vs : List V) (Q : VK) (E : XK), (A.deeper (envOfC qual (defScope st) s.heap.objs.size f cdv)).guards = some [] → Room k (A.deeper (envOfC qual (defScope st) s.heap.objs.size f cdv)) → sp vs H Q E →
      ∃ t, PSs (cxOf CX0 P w K mg base N qual (defScope st) f cdv A outer s H E).nox (defBody st) t ∧ t { nx := fun _ H' => Q .non H', rt := Q } (start N vs) H) :
    FnG P w K mg base CX0 (k + 1) f fd ps sp := by
  obtain ⟨oc, od, kV, doc, pm, an, cdv, ct, osl, rfl, lk, hcd⟩ := F.ex
  refine fng_of lk hcd S hn fun A outer s H vs Q E hgd hr hsp => ?_
  obtain ⟨t, h, q⟩ := hbody cdv A outer s H vs Q E hgd hr hsp
  exact ⟨t, h.nox, q⟩
end

section
variable {X : Cx} {CX : CXT} {k : Nat} {f : Addr} {fd : FuncData} {ps ks : List Str} {sp : Sp} {dvs : List V} {ds : List Value} {E : XK} {x : Str} {p pos : Pos} {e : Expr} {es : List Expr} {kws : List Keyword} {t tk : TA}
/-- the callee runs -/
theorem run_g {pins : List (Addr × Obj)} {σ : St} {H : Hp} {s : Shared} {Q : VK} {us : List Value} {vs : List V} (F : FnG X.prog X.w X.K X.mg X.base CX k f fd ps sp) (hgd : X.A.guards = some []) (hr : Room k X.A) (hb : Binds X.K fd ps ds) (hd : Vals dvs ds) (hx : Passes CX X E)
    (I : Inv X pins σ H s) (r : Vals vs us) (h : sp (vs ++ dvs) H Q E) : wpAny (model X.prog X.w) X.A (call (.ref f) us) (EP X pins σ Q) X.xe s := by
  have rd : Vals (vs ++ dvs) (us ++ ds) := r.append hd
  have hlen : (us ++ ds).length = ps.length := rd.length.symm.trans (F.ln _ _ _ _ h)
  refine wpAny_call (codeAny_mono (F.go X.A X.stack s H ⟨us, []⟩ (us ++ ds) (vs ++ dvs) Q E hgd hr I.env0 (hb s us I.kIn hlen) rd h) fun z s2 hq => ?_)
  cases z with
  | error er => exact hx pins σ H s er s2 I hq
  | ok fl =>
    cases fl with
    | ret u => exact I.after hq
    | next => exact hq.elim
    | brk => exact hq.elim
    | cont => exact hq.elim
theorem pe_g (F : FnG X.prog X.w X.K X.mg X.base CX k f fd ps sp) (hgd : X.A.guards = some []) (hr : Room k X.A) (hg : Gl X x) (hm : X.mg x = some (.ref f)) (hk : PySem.W.keepIn X.K (.ref f) = true) (hb : Binds X.K fd ps ds) (hd : Vals dvs ds) (hx : Passes CX X E)
    (ha : PA X (e :: es) t) (hdb : (x == ("__debug__" : Str)) = false := by decide) (he : starEach (e :: es) X.env = (false, eval e X.env) :: starEach es X.env := by rfl) (hpl : (backTo pos (starEach es X.env)).any (·.1) = false := by rfl) :
    PE X (.Call (.Name x p) (e :: es) [] pos) (tCall sp dvs E t) := ⟨fun pins s σ H Q I h =>
  wpAny_Call_Name_kw (ld_glob I hg hm (PySem.W.callWith_K (h₀ := X.base) I.ok.mod.kin hk (thn (ha.run pos pins s σ H _ I h) fun us s1 ⟨vs, H1, I1, r, q⟩ => ⟨I1.kIn, run_g F hgd hr hb hd hx I1 r q⟩) he hpl) hdb)⟩
theorem pe_g0 (F : FnG X.prog X.w X.K X.mg X.base CX k f fd ps sp) (hgd : X.A.guards = some []) (hr : Room k X.A) (hg : Gl X x) (hm : X.mg x = some (.ref f)) (hk : PySem.W.keepIn X.K (.ref f) = true) (hb : Binds X.K fd ps ds) (hd : Vals dvs ds) (hx : Passes CX X E)
    (hdb : (x == ("__debug__" : Str)) = false := by decide) : PE X (.Call (.Name x p) [] [] pos) (tCall sp dvs E tNil) := ⟨fun pins s σ H Q I h =>
  wpAny_Call_Name_kw (ld_glob I hg hm (PySem.W.callWith_K0 I.kIn hk (run_g (us := []) F hgd hr hb hd hx I .nil h)) hdb)⟩
/-- f(k = v, ..) by names alone: hb puts the values in the parameters' order -/
def KwBinds (K : PySem.W.Frag) (fd : FuncData) (ps ks : List Str) (g : {α : Type} → List α → List α) : Prop :=
  ∀ (s : Shared) (ws : List Value), K.In s.heap → ws.length = ps.length → BindsTo s fd ⟨[], ks.zip ws⟩ (ps.zip (g ws))
def tKw (sp : Sp) (g : {α : Type} → List α → List α) (n : Nat) (E : XK) (tk : TA) : TE := fun σ H Q => tk σ H fun zs H2 => zs.length = n ∧ sp (g zs) H2 Q E
theorem pe_kw {g : {α : Type} → List α → List α} (F : FnG X.prog X.w X.K X.mg X.base CX k f fd ps sp) (hgd : X.A.guards = some []) (hr : Room k X.A) (hg : Gl X x) (hm : X.mg x = some (.ref f)) (hk : PySem.W.keepIn X.K (.ref f) = true) (hb : KwBinds X.K fd ps ks g) (hx : Passes CX X E)
    (hkw : PK X kws tk) (hrel : ∀ {zs : List V} {ws : List Value}, Vals zs ws → Vals (g zs) (g ws)) (hall : (backToKw pos (keywordEach kws X.env)).all (·.1.isSome) = true := by rfl) (hks : (backToKw pos (keywordEach kws X.env)).filterMap (·.1) = ks := by rfl) (hdb : (x == ("__debug__" : Str)) = false := by decide)
    (hpl : ((backTo pos (starEach [] X.env)).any (·.1) || (backToKw pos (keywordEach kws X.env)).any (·.1.isNone)) = false := by rfl) :
    PE X (.Call (.Name x p) [] kws pos) (tKw sp g ps.length E tk) := by
  refine ⟨fun pins s σ H Q I h => wpAny_Call_Name_kw (ld_glob I hg hm ?_ hdb)⟩
  refine PySem.W.callWith_KW0 (h₀ := X.base) I.ok.mod.kin hk hall ?_ hpl
  refine thn (hkw.run pos pins s σ H _ I h) fun ws s2 ⟨zs, H2, I2, rz, hz, q2⟩ => ⟨I2.kIn, ?_⟩
  rw [hks]
  have rg := hrel rz
  refine wpAny_call (codeAny_mono (F.go X.A X.stack s2 H2 ⟨[], ks.zip ws⟩ (g ws) (g zs) Q E hgd hr I2.env0 (hb s2 ws I2.kIn (rz.length.symm.trans hz)) rg q2) fun z s3 hq => ?_)
  cases z with
  | error er => exact hx pins σ H2 s2 er s3 I2 hq
  | ok fl =>
    cases fl with
    | ret u => exact I2.after hq
    | next => exact hq.elim
    | brk => exact hq.elim
    | cont => exact hq.elim
end
end L2.Hx

/-! Data of any depth, dicts too, over a part G of the tracked heap; repr of data. -/
namespace L2.Hx
open PySem PySem.Spec PyProof.Rows

def keyD : Key → PyData
  | .inl i => .int i
  | .inr x => .str x
mutual
inductive Da (K : PySem.W.Frag) (G : Hp) : V → PyData → Prop
  | non : Da K G .non .none
  | bl (b : Bool) : Da K G (.bl b) (.bool b)
  | int (i : Int) : Da K G (.int i) (.int i)
  | str (x : Str) : Da K G (.str x) (.str x)
  | lst {a : Addr} {xs : List V} {ds : List PyData} : G a = some (.lst xs) → DaAll K G xs ds → Da K G (.ref a) (.list ds)
  | tup {a : Addr} {xs : List V} {ds : List PyData} : SqT K G a xs → DaAll K G xs ds → Da K G (.ref a) (.tuple ds)
  | dct {a : Addr} {kvs : List (Key × V)} {ds : List PyData} : G a = some (.dK kvs) → DaAll K G (kvs.map (·.2)) ds → Da K G (.ref a) (.dict ((kvs.map fun p => keyD p.1).zip ds))
inductive DaAll (K : PySem.W.Frag) (G : Hp) : List V → List PyData → Prop
  | nil : DaAll K G [] []
  | cons {v : V} {vs : List V} {d : PyData} {ds : List PyData} : Da K G v d → DaAll K G vs ds → DaAll K G (v :: vs) (d :: ds)
end
section
variable {K : PySem.W.Frag} {G G' : Hp}
theorem DaAll.length : ∀ {vs : List V} {ds : List PyData}, DaAll K G vs ds → vs.length = ds.length
  | _, _, .nil => rfl
  | _, _, .cons _ t => by rw [List.length_cons, List.length_cons, DaAll.length t]
theorem sameT {a : Addr} {xs : List V} (e : Same G G') (h : SqT K G a xs) : SqT K G' a xs := by
  rcases h with (q | ⟨o, q⟩) | q
  · exact .inl (.inl (e _ _ q))
  · exact .inl (.inr ⟨o, e _ _ q⟩)
  · exact .inr q
mutual
theorem Da.mono (e : Same G G') : ∀ {v : V} {d : PyData}, Da K G v d → Da K G' v d
  | _, _, .non => .non
  | _, _, .bl b => .bl b
  | _, _, .int i => .int i
  | _, _, .str x => .str x
  | _, _, .lst h t => .lst (e _ _ h) (DaAll.mono e t)
  | _, _, .tup h t => .tup (sameT e h) (DaAll.mono e t)
  | _, _, .dct h t => .dct (e _ _ h) (DaAll.mono e t)
theorem DaAll.mono (e : Same G G') : ∀ {vs : List V} {ds : List PyData}, DaAll K G vs ds → DaAll K G' vs ds
  | _, _, .nil => .nil
  | _, _, .cons h t => .cons (Da.mono e h) (DaAll.mono e t)
end
theorem DaAll.append : ∀ {vs ws : List V} {ds es : List PyData}, DaAll K G vs ds → DaAll K G ws es → DaAll K G (vs ++ ws) (ds ++ es)
  | _, _, _, _, .nil, s => s
  | _, _, _, _, .cons h t, s => .cons h (DaAll.append t s)
theorem DaAll.get : ∀ {vs : List V} {ds : List PyData} {i : Nat} {v : V}, DaAll K G vs ds → vs[i]? = some v → ∃ d, ds[i]? = some d ∧ Da K G v d
  | _, _, 0, _, .cons h t, e => by
    rw [List.getElem?_cons_zero] at e
    cases e
    exact ⟨_, rfl, h⟩
  | _, _, i + 1, v, .cons h t, e => by
    rw [List.getElem?_cons_succ] at e ⊢
    exact DaAll.get t e
theorem DaAll.mem {vs : List V} {ds : List PyData} {v : V} (h : DaAll K G vs ds) (m : v ∈ vs) : ∃ d, d ∈ ds ∧ Da K G v d := by
  obtain ⟨i, e⟩ := List.mem_iff_getElem?.mp m
  obtain ⟨d, e2, q⟩ := h.get e
  exact ⟨d, List.mem_of_getElem? e2, q⟩
theorem DaAll.take : ∀ {vs : List V} {ds : List PyData} (n : Nat), DaAll K G vs ds → DaAll K G (vs.take n) (ds.take n)
  | _, _, 0, _ => .nil
  | _, _, _ + 1, .nil => .nil
  | _, _, n + 1, .cons h t => .cons h (DaAll.take n t)
theorem DaAll.drop : ∀ {vs : List V} {ds : List PyData} (n : Nat), DaAll K G vs ds → DaAll K G (vs.drop n) (ds.drop n)
  | _, _, 0, h => h
  | _, _, _ + 1, .nil => .nil
  | _, _, n + 1, .cons _ t => DaAll.drop n t
theorem DaAll.rep {v : V} {d : PyData} (h : Da K G v d) : ∀ n : Nat, DaAll K G (List.replicate n v) (List.replicate n d)
  | 0 => .nil
  | n + 1 => .cons h (DaAll.rep h n)
theorem DaAll.set {v : V} {d : PyData} (h : Da K G v d) : ∀ {vs : List V} {ds : List PyData} (i : Nat), DaAll K G vs ds → DaAll K G (vs.set i v) (ds.set i d)
  | _, _, _, .nil => .nil
  | _, _, 0, .cons _ t => .cons h t
  | _, _, i + 1, .cons q t => .cons q (DaAll.set h i t)
theorem DaAll.flat {vs : List V} {ds : List PyData} (h : DaAll K G vs ds) : ∀ n : Nat, DaAll K G (List.replicate n vs).flatten (List.replicate n ds).flatten
  | 0 => .nil
  | n + 1 => by
    rw [List.replicate_succ, List.replicate_succ, List.flatten_cons, List.flatten_cons]
    exact h.append (DaAll.flat h n)
end

theorem pairs_keys {P : Program} {w : World} : ∀ {es : List DictEntry} {kvs : List (Key × V)} {vs : List (Key × Value)}, KV kvs vs → Pairs (mixKind P w) es vs →
    Vals (kvs.map fun p => kV p.1) (es.map (·.key)) ∧ Vals (kvs.map (·.2)) (es.map (·.val))
  | _, _, _, .nil, .nil => ⟨.nil, .nil⟩
  | e :: es, (k, v) :: kvs, (k', u) :: vs, .cons ⟨r1, r2⟩ t, .cons h1 h2 h3 => by
    obtain ⟨a, b⟩ := pairs_keys t h3
    refine ⟨.cons ?_ a, .cons ?_ b⟩
    · have r1 : k = k' := r1
      have h1 : keyIs k' e.key = true := h1
      subst r1
      rcases keyIs_shape h1 with ⟨i, tk, rfl, q⟩ | ⟨x, tk, rfl, q⟩
      · exact ⟨tk, q⟩
      · exact ⟨tk, q⟩
    · show RelV v e.val
      rw [h2]
      exact r2
theorem keyD_da {K : PySem.W.Frag} {G : Hp} : ∀ (ks : List Key), DaAll K G (ks.map kV) (ks.map keyD)
  | [] => .nil
  | .inl i :: r => .cons (.int i) (keyD_da r)
  | .inr x :: r => .cons (.str x) (keyD_da r)

section
variable {X : Cx} {pins : List (Addr × Obj)} {σ : St} {H G : Hp} {s : Shared}
theorem zip_fst : ∀ {as bs : List PyData}, as.length = bs.length → (as.zip bs).map (·.1) = as
  | [], _, _ => by simp
  | a :: as, b :: bs, h => by
    rw [List.zip_cons_cons, List.map_cons, zip_fst (by simpa using h)]
theorem zip_snd : ∀ {as bs : List PyData}, as.length = bs.length → (as.zip bs).map (·.2) = bs
  | [], [], _ => rfl
  | [], _ :: _, h => by simp at h
  | a :: as, [], h => by simp at h
  | a :: as, b :: bs, h => by
    rw [List.zip_cons_cons, List.map_cons, zip_snd (by simpa using h)]
/-- what stands at a dict's address -/
theorem dict_at {a : Addr} {kvs : List (Key × V)} (I : Inv X pins σ H s) (h : H a = some (.dK kvs)) : ∃ o es n, s.heap.get? a = some o ∧ o.cls = .type "dict" ∧ o.data = .dict es n ∧ (a == sysModules) = false ∧
    Vals (kvs.map fun p => kV p.1) (es.toList.map (·.key)) ∧ Vals (kvs.map (·.2)) (es.toList.map (·.val)) := by
  obtain ⟨_, hs, vs, r, o, es, ep, h1, h2, h3, _, h5, _⟩ := (show ObjOk X.prog X.w H s.heap a (.dK kvs) from I.hok a _ h)
  obtain ⟨q1, q2⟩ := pairs_keys r h5
  exact ⟨o, es, ep, h1, h2.1, h3, hs, q1, q2⟩
abbrev RkOf (X : Cx) (h : Heap) (u : Value) (d : PyData) : Prop := ∃ as bs, Reads h u d as ∧ ReadAtMost h d.depth bs ∧ ReprK X.prog X.w bs h d.depth u d.shown
abbrev RkAll (X : Cx) (h : Heap) (us : List Value) (ds : List PyData) : Prop := ∃ as bs, ReadsAll h us ds as ∧ ReadAtMost h (PyData.depthAll ds) bs ∧ ReprAllK X.prog X.w bs h (PyData.depthAll ds) us (PyData.shownAll ds)
theorem no_addr {h : Heap} {n : Nat} : ReadAtMost h n [] := fun b q => absurd q List.not_mem_nil
theorem rk_keys : ∀ (ks : List Key) (us : List Value), Vals (ks.map kV) us → PyData.showableAll (ks.map keyD) = true → (∀ t ∈ PyData.shownAll (ks.map keyD), t.length ≤ sizeLine) → RkAll X s.heap us (ks.map keyD)
  | [], _, .nil, _, _ => ⟨_, [], .nil, no_addr, .nil⟩
  | k :: ks, _, .cons r t, hs, hz => by
    rw [List.map_cons, PyData.showableAll, Bool.and_eq_true] at hs
    rw [List.map_cons] at hz ⊢
    unfold PyData.shownAll at hz
    obtain ⟨as, bs, q1, q2, q3⟩ := rk_keys ks _ t hs.2 fun z m => hz z (List.mem_cons_of_mem _ m)
    have h0 := hz _ List.mem_cons_self
    cases k with
    | inl i =>
      obtain ⟨tk, rfl⟩ := r
      exact ⟨_, bs, .cons (.int i tk) q1, q2.mono (Nat.le_max_right _ _), .cons (.of_is (ReprIs.int tk (by simpa [keyD, PyData.showable] using hs.1)) _ _ _) (q3.more_le (fun _ m => m) (Nat.le_max_right _ _))⟩
    | inr x =>
      obtain ⟨tk, rfl⟩ := r
      exact ⟨_, bs, .cons (.str x tk) q1, q2.mono (Nat.le_max_right _ _), .cons (.of_is (ReprIs.str x tk (by simpa only [keyD, PyData.shown] using h0)) _ _ _) (q3.more_le (fun _ m => m) (Nat.le_max_right _ _))⟩
/-- the entries of a dict as repr reads them -/
theorem rk_entries {es : List DictEntry} {kvs : List (Key × V)} {ds : List PyData} (vk : Vals (kvs.map fun p => kV p.1) (es.map (·.key))) (hl : kvs.length = ds.length)
    (hv : PyData.showableAll ds = true → (∀ t ∈ PyData.shownAll ds, t.length ≤ sizeLine) → RkAll X s.heap (es.map (·.val)) ds) (hs : PyData.showableKv ((kvs.map fun p => keyD p.1).zip ds) = true)
    (hz : (dictText (PyData.shownKv ((kvs.map fun p => keyD p.1).zip ds))).length ≤ sizeLine) :
    ∃ as1 as2 bs, ReadsAll s.heap (es.map (·.key)) (((kvs.map fun p => keyD p.1).zip ds).map (·.1)) as1 ∧ ReadsAll s.heap (es.map (·.val)) (((kvs.map fun p => keyD p.1).zip ds).map (·.2)) as2 ∧
      ReadAtMost s.heap (PyData.depthKv ((kvs.map fun p => keyD p.1).zip ds)) bs ∧ ReprEntriesK X.prog X.w bs s.heap (PyData.depthKv ((kvs.map fun p => keyD p.1).zip ds)) es (PyData.shownKv ((kvs.map fun p => keyD p.1).zip ds)) := by
  have hll : (kvs.map fun p => keyD p.1).length = ds.length := by rw [List.length_map]; exact hl
  generalize hkv : (kvs.map fun p => keyD p.1).zip ds = kv at hs hz ⊢
  obtain ⟨s1, s2⟩ := PyData.showableKv_split kv hs
  have e1 : kv.map (·.1) = kvs.map fun p => keyD p.1 := by rw [← hkv]; exact zip_fst hll
  have e2 : kv.map (·.2) = ds := by rw [← hkv]; exact zip_snd hll
  have ek : (kvs.map (·.1)).map kV = kvs.map fun p => kV p.1 := by rw [List.map_map]; rfl
  have ed : (kvs.map (·.1)).map keyD = kvs.map fun p => keyD p.1 := by rw [List.map_map]; rfl
  have z1 : ∀ t ∈ PyData.shownAll (kv.map (·.1)), t.length ≤ sizeLine := fun t ht => let ⟨p, hp, hl⟩ := PyData.shownKv_key_le kv t ht; Nat.le_trans hl (Nat.le_trans (dictText_mem_le hp) hz)
  have z2 : ∀ t ∈ PyData.shownAll (kv.map (·.2)), t.length ≤ sizeLine := fun t ht => let ⟨p, hp, hl⟩ := PyData.shownKv_val_le kv t ht; Nat.le_trans hl (Nat.le_trans (dictText_mem_le hp) hz)
  have m1 := PyData.depthAll_keys_le kv
  have m2 := PyData.depthAll_vals_le kv
  rw [PyData.shownKv_eq]
  rw [e1] at s1 z1 m1 ⊢
  rw [e2] at s2 z2 m2 ⊢
  rw [← ed] at s1 z1 m1 ⊢
  rw [← ek] at vk
  obtain ⟨as1, b1, r1, a1, k1⟩ := rk_keys (X := X) (s := s) _ _ vk s1 z1
  obtain ⟨as2, b2, r2, a2, k2⟩ := hv s2 z2
  exact ⟨as1, as2, b1 ++ b2, r1, r2, (a1.mono m1).append (a2.mono m2), ReprEntriesK.of_two es _ _ (k1.more_le (fun b q => List.mem_append_left _ q) m1) (k2.more_le (fun b q => List.mem_append_right _ q) m2)⟩
mutual
theorem Da.rk (I : Inv X pins σ H s) (sm : Same G H) : ∀ {d : PyData} {v : V} {u : Value}, Da X.K G v d → RelV v u → d.showable = true → d.shown.length ≤ sizeLine → RkOf X s.heap u d
  | _, _, _, .non, r, _, _ => by
    cases r
    exact ⟨_, [], .none, no_addr, by simp only [PyData.shown]; exact .of_is ReprIs.none _ _ _⟩
  | _, _, _, .bl b, r, _, _ => by
    cases r
    exact ⟨_, [], .bool b, no_addr, by simp only [PyData.shown]; exact .of_is (ReprIs.bool b) _ _ _⟩
  | _, _, _, .int i, r, hs, _ => by
    obtain ⟨t, rfl⟩ := r
    exact ⟨_, [], .int i t, no_addr, by simp only [PyData.shown]; exact .of_is (ReprIs.int t (by simpa [PyData.showable] using hs)) _ _ _⟩
  | _, _, _, .str x, r, _, hz => by
    obtain ⟨t, rfl⟩ := r
    exact ⟨_, [], .str x t, no_addr, by simp only [PyData.shown]; exact .of_is (ReprIs.str x t (by simpa only [PyData.shown] using hz)) _ _ _⟩
  | .list ds, .ref a, _, .lst h t, r, hs, hz => by
    cases r
    have hz2 : (listText (PyData.shownAll ds)).length ≤ sizeLine := by simpa only [PyData.shown] using hz
    obtain ⟨_, its, n, rv, e⟩ := (show ObjOk X.prog X.w H s.heap a (.lst _) from I.hok a _ (sm _ _ h))
    obtain ⟨as, bs, q1, q2, q3⟩ := DaAll.rk I sm t rv (by simpa [PyData.showable] using hs) fun z hz' => Nat.le_trans (listText_mem_le hz') hz2
    have rd : Reads s.heap (.ref a) (.list ds) _ := .list e rfl rfl q1
    have hna : a ∉ bs := not_mem_of_deeper rd (by simp only [PyData.depth]; omega) q2
    refine ⟨_, a :: bs, rd, ReadAtMost.cons rd (by simp only [PyData.depth]; omega) q2, ?_⟩
    simp only [PyData.depth, PyData.shown]
    cases its with
    | nil =>
      cases q1
      simp only [PyData.shownAll, listText_nil]
      exact ReprK.listEmpty e rfl rfl
    | cons y l => exact ReprK.list e rfl rfl hna (by simpa using q3.length_eq) fun i z e2 => q3.item i z (by simpa using e2)
  | .tuple ds, .ref a, _, .tup h t, r, hs, hz => by
    cases r
    have hz2 : (tupleText (PyData.shownAll ds)).length ≤ sizeLine := by simpa only [PyData.shown] using hz
    obtain ⟨its, rv, ⟨o, ho, hc, n, hd⟩, _⟩ := I.tuple (sameT sm h)
    obtain ⟨as, bs, q1, q2, q3⟩ := DaAll.rk I sm t rv (by simpa [PyData.showable] using hs) fun z hz' => Nat.le_trans (tupleText_mem_le hz') hz2
    have rd : Reads s.heap (.ref a) (.tuple ds) _ := .tuple ho hc hd q1
    have hna : a ∉ bs := not_mem_of_deeper rd (by simp only [PyData.depth]; omega) q2
    refine ⟨_, a :: bs, rd, ReadAtMost.cons rd (by simp only [PyData.depth]; omega) q2, ?_⟩
    simp only [PyData.depth, PyData.shown]
    exact ReprK.tuple ho hc hd hna q3
  | _, .ref a, _, @Da.dct _ _ _ kvs ds h t, r, hs, hz => by
    cases r
    have hz2 : (dictText (PyData.shownKv ((kvs.map fun p => keyD p.1).zip ds))).length ≤ sizeLine := by simpa only [PyData.shown] using hz
    obtain ⟨o, es, n, ho, hc, hd, hsys, vk, vv⟩ := dict_at I (sm _ _ h)
    obtain ⟨as1, as2, bs, r1, r2, a3, k3⟩ := rk_entries (X := X) (s := s) vk (by rw [← t.length, List.length_map]) (fun s2 z2 => DaAll.rk I sm t vv s2 z2) (by simpa [PyData.showable] using hs) hz2
    have rd : Reads s.heap (.ref a) (.dict ((kvs.map fun p => keyD p.1).zip ds)) _ := .dict ho hc hd r1 r2
    have hna : a ∉ bs := not_mem_of_deeper rd (by simp only [PyData.depth]; omega) a3
    refine ⟨_, a :: bs, rd, ReadAtMost.cons rd (by simp only [PyData.depth]; omega) a3, ?_⟩
    simp only [PyData.depth, PyData.shown]
    exact ReprK.dict ho hc hd hsys hna k3
theorem DaAll.rk (I : Inv X pins σ H s) (sm : Same G H) : ∀ {ds : List PyData} {vs : List V} {us : List Value}, DaAll X.K G vs ds → Vals vs us → PyData.showableAll ds = true → (∀ t ∈ PyData.shownAll ds, t.length ≤ sizeLine) → RkAll X s.heap us ds
  | _, _, _, .nil, .nil, _, _ => ⟨_, [], .nil, no_addr, .nil⟩
  | _, _, _, .cons h t, .cons r rs, hs, hz => by
    rw [PyData.showableAll, Bool.and_eq_true] at hs
    unfold PyData.shownAll at hz
    obtain ⟨as1, b1, q1, a1, k1⟩ := Da.rk I sm h r hs.1 (hz _ List.mem_cons_self)
    obtain ⟨as2, b2, q2, a2, k2⟩ := DaAll.rk I sm t rs hs.2 fun z m => hz z (List.mem_cons_of_mem _ m)
    refine ⟨_, b1 ++ b2, .cons q1 q2, (a1.mono (Nat.le_max_left _ _)).append (a2.mono (Nat.le_max_right _ _)), ?_⟩
    exact .cons ((k1.more fun b q => List.mem_append_left _ q).level_le (Nat.le_max_left _ _)) (k2.more_le (fun b q => List.mem_append_right _ q) (Nat.le_max_right _ _))
end
end

/-! ### repr(x) -/
def rRepr (K : PySem.W.Frag) : List V → Hp → VK → Prop := fun xs H Q => ∃ (v : V) (d : PyData) (G : Hp), xs = [v] ∧ Same G H ∧ Da K G v d ∧ d.showable = true ∧ d.depth ≤ 60 ∧ d.shown.length ≤ sizeLine ∧ Q (.str d.shown) H
section
variable {X : Cx}
theorem call_repr (hgd : X.A.guards = some []) (hu : X.A.units + 64 < cLine) : CallR X (.builtin "repr") (rRepr X.K) := by
  intro pins s σ H xs us Q I r h
  obtain ⟨v, d, G, rfl, sm, hd, hs, hdp, hz, q⟩ := h
  obtain ⟨u, rfl, rv⟩ := vals1 r
  have done : ∀ h' t tk, (∀ b o, s.heap.get? b = some o → h'.get? b = some o) → EP X pins σ Q (.str d.shown t) { s with heap := h', toks := tk } := fun h' t tk k => ⟨.str _, H, I.kept k, ⟨_, rfl⟩, q⟩
  cases hd with
  | non => cases rv; exact P.repr_of_none ⟨.str _, H, I.tok _, ⟨_, rfl⟩, by simpa only [PyData.shown] using q⟩
  | bl b => cases rv; exact P.repr_of_bool ⟨.str _, H, I.tok _, ⟨_, rfl⟩, by simpa only [PyData.shown] using q⟩
  | int i => obtain ⟨t, rfl⟩ := rv; exact P.repr_of_int (by simpa [PyData.showable] using hs) ⟨.str _, H, I.tok _, ⟨_, rfl⟩, by simpa only [PyData.shown] using q⟩
  | str x => obtain ⟨t, rfl⟩ := rv; exact P.repr_of_str ⟨.str _, H, I.tok _, ⟨_, rfl⟩, by simpa only [PyData.shown] using q⟩ (by simpa only [PyData.shown] using hz)
  | @lst a xs ds h t =>
    cases rv
    have hz2 : (listText (PyData.shownAll ds)).length ≤ sizeLine := by simpa only [PyData.shown] using hz
    obtain ⟨_, its, n, rw', e⟩ := (show ObjOk X.prog X.w H s.heap a (.lst _) from I.hok a _ (sm _ _ h))
    obtain ⟨as, bs, q1, q2, q3⟩ := DaAll.rk I sm t rw' (by simpa [PyData.showable] using hs) fun z hz' => Nat.le_trans (listText_mem_le hz') hz2
    have rd : Reads s.heap (.ref a) (.list ds) _ := .list e rfl rfl q1
    have hna : a ∉ bs := not_mem_of_deeper rd (by simp only [PyData.depth]; omega) q2
    simp only [PyData.depth] at hdp
    refine call_repr_slot (T := "list") (idr := "list.__repr__") (by omega) ⟨_, e, rfl⟩ F.slot_list_repr.toG ?_
    cases its with
    | nil =>
      cases q1
      refine call_list_repr_empty ⟨_, e, rfl⟩ e rfl ⟨_, _, rfl, ?_⟩
      have := done s.heap s.toks (s.toks + 1) fun _ _ k => k
      simpa only [PyData.shown, PyData.shownAll, listText_nil] using this
    | cons y l =>
      exact call_list_reprK e rfl rfl hna (by simpa using q3.length_eq) (fun i z e2 => q3.item i z (by simpa using e2)) hgd (fun b _ => Clear.nil b) (by show X.A.units + 1 + _ < _; omega) (fun _ _ k => k)
        (fun h' t tk k => ⟨_, _, rfl, by have := done h' t tk k; simpa only [PyData.shown] using this⟩) hz2
  | @tup a xs ds h t =>
    cases rv
    have hz2 : (tupleText (PyData.shownAll ds)).length ≤ sizeLine := by simpa only [PyData.shown] using hz
    obtain ⟨its, rw', ⟨o, ho, hc, n, hdd⟩, _⟩ := I.tuple (sameT sm h)
    obtain ⟨as, bs, q1, q2, q3⟩ := DaAll.rk I sm t rw' (by simpa [PyData.showable] using hs) fun z hz' => Nat.le_trans (tupleText_mem_le hz') hz2
    have rd : Reads s.heap (.ref a) (.tuple ds) _ := .tuple ho hc hdd q1
    have hna : a ∉ bs := not_mem_of_deeper rd (by simp only [PyData.depth]; omega) q2
    simp only [PyData.depth] at hdp
    exact call_repr_slot (T := "tuple") (idr := "tuple.__repr__") (by omega) ⟨_, ho, hc⟩ F.slot_tuple_repr
      (call_tuple_reprK ho hc hdd hna q3 hgd (fun b _ => Clear.nil b) (by show X.A.units + 1 + _ < _; omega) (fun _ _ k => k) (fun h' t tk k => ⟨_, _, rfl, by have := done h' t tk k; simpa only [PyData.shown] using this⟩) hz2)
  | @dct a kvs ds h t =>
    cases rv
    have hz2 : (dictText (PyData.shownKv ((kvs.map fun p => keyD p.1).zip ds))).length ≤ sizeLine := by simpa only [PyData.shown] using hz
    obtain ⟨o, es, n, ho, hc, hdd, hsys, vk, vv⟩ := dict_at I (sm _ _ h)
    obtain ⟨as1, as2, bs, r1, r2, a3, k3⟩ := rk_entries (X := X) (s := s) vk (by rw [← t.length, List.length_map]) (fun s2 z2 => DaAll.rk I sm t vv s2 z2) (by simpa [PyData.showable] using hs) hz2
    have rd : Reads s.heap (.ref a) (.dict ((kvs.map fun p => keyD p.1).zip ds)) _ := .dict ho hc hdd r1 r2
    have hna : a ∉ bs := not_mem_of_deeper rd (by simp only [PyData.depth]; omega) a3
    simp only [PyData.depth] at hdp
    exact call_repr_slot (T := "dict") (idr := "dict.__repr__") (by omega) ⟨_, ho, hc⟩ F.slot_dict_repr
      (call_dict_reprK ho hc hdd hsys hna k3 hgd (fun b _ => Clear.nil b) (by show X.A.units + 1 + _ < _; omega) (fun _ _ k => k) (fun h' t tk k => ⟨_, _, rfl, by have := done h' t tk k; simpa only [PyData.shown] using this⟩) hz2)
end
end L2.Hx

/-! Own rules: «x in words» for any data x, enumerate of a tuple. -/
namespace L2.Hx
open PySem PySem.Spec PyProof.Rows
open AutoSeq1 (wpAny_loadPart')

section
theorem str_eq_dict (b : Str) (u : Tok) (l : Addr) (es : Array DictEntry) (n : Nat) (dd : Option Addr) (sl : Array (Option Value)) :
    Meets (Builtin.«str.__eq__» ⟨[.str b u, .ref l], []⟩) (fun _ R s => s.heap.get? l = some { cls := .type "dict", dict := dd, data := .dict es n, slots := sl } ∧ R (.ok (.ret .notImplemented)) s) :=
  .of_wp fun prog w A R s h => by
    obtain ⟨hp, g, d, tk, os⟩ := s
    obtain ⟨hl, h⟩ := h
    wp_walk using wpAny_load hl
    exact ⟨_, rfl, h⟩
theorem dict_eq_str (b : Str) (u : Tok) (l : Addr) (es : Array DictEntry) (n : Nat) (dd : Option Addr) (sl : Array (Option Value)) :
    Meets (Builtin.«dict.__eq__» ⟨[.ref l, .str b u], []⟩) (fun _ R s => s.heap.get? l = some { cls := .type "dict", dict := dd, data := .dict es n, slots := sl } ∧ R (.ok (.ret .notImplemented)) s) :=
  .of_wp fun prog w A R s h => by
    obtain ⟨hp, g, d, tk, os⟩ := s
    obtain ⟨hl, h⟩ := h
    have f1 := F.sub_str_dict
    wp_walk using wpAny_load hl
    exact ⟨_, rfl, h⟩
theorem str_is_dict {A : Around} {s : Shared} {l : Addr} {es : Array DictEntry} {n : Nat} {dd : Option Addr} {sl : Array (Option Value)} (b : Str) (u : Tok) (ho : s.heap.get? l = some { cls := .type "dict", dict := dd, data := .dict es n, slots := sl }) (hu : A.units < cLine) :
    SeqAt.EqAt A s (.str b u) (.ref l) false := fun prog w E Q h => by
  unfold eqBool
  refine wpAny_holding ?_
  refine wpAny_ite_split (fun hab => absurd (eq_of_beq hab) nofun) fun _ => ?_
  refine wpAny_bind ?_
  exact SeqAt.rc_eq_decline_or (k := false) (typeIs_str s b u) ⟨_, ho, rfl⟩ (by decide) F.sub_dict_str F.slot_str_eq F.slot_dict_eq_refl
    (fun Q2 hq => call_meets F.slot_str_eq (typeIs_str s b u) F.entry_str_eq (F.args_str_eq_2 _ _) (str_eq_dict b u l es n dd sl) ⟨ho, hq⟩)
    (fun Q2 hq => call_meets F.slot_dict_eq_refl ⟨_, ho, rfl⟩ F.entry_dict_eq (F.args_dict_eq_2 _ _) (dict_eq_str b u l es n dd sl) ⟨ho, hq⟩)
    (fun Q2 hq => wpAny_of_eq (rfl : isSame (.str b u) (.ref l) = pure false) hq) (.inr hu) (wpAny_truthy_bool h)
end
/-- is the word a text among these -/
def inWs (d : PyData) (ws : List Str) : Bool := match d with
  | .str z => decide (z ∈ ws)
  | _ => false
def eqW (d : PyData) (u : Value) : Bool := match d, u with
  | .str z, .str y _ => y == z
  | _, _ => false
section
variable {X : Cx} {pins : List (Addr × Obj)} {σ : St} {H G : Hp} {s : Shared}
theorem any_eqW : ∀ {d : PyData} {ws : List Str} {us : List Value}, Vals (ws.map V.str) us → us.any (eqW d) = inWs d ws
  | d, [], _, .nil => by
    cases d <;> simp [inWs]
  | d, w :: ws, _, .cons r t => by
    obtain ⟨tk, rfl⟩ := r
    rw [List.any_cons, any_eqW (d := d) t]
    cases d <;> simp [eqW, inWs]
    rename_i z
    by_cases h : w = z
    · subst h
      simp
    · simp [h, Ne.symm h]
theorem eq_word (hu : X.A.units + 64 < cLine) (I : Inv X pins σ H s) (sm : Same G H) {v : V} {d : PyData} {x : Value} (hd : Da X.K G v d) (rx : RelV v x) (y : Str) (t : Tok) : SeqAt.EqAt X.A.in1 s (.str y t) x (eqW d (.str y t)) := by
  have hu1 : X.A.in1.units < cLine := by show X.A.units + 1 < _; omega
  cases hd with
  | non => cases rx; exact SeqAt.EqAt.str_none y t
  | bl b => cases rx; exact SeqAt.EqAt.str_bool y t b
  | int i => obtain ⟨tk, rfl⟩ := rx; exact SeqAt.EqAt.str_int y t i tk
  | str z => obtain ⟨tk, rfl⟩ := rx; exact SeqAt.EqAt.str_str y t z tk
  | @lst a xs ds h _ =>
    cases rx
    obtain ⟨_, its, n, _, e⟩ := (show ObjOk X.prog X.w H s.heap a (.lst _) from I.hok a _ (sm _ _ h))
    exact SeqAt.EqAt.str_list y t ⟨_, e, rfl, _, rfl⟩ hu1
  | @tup a xs ds h _ =>
    cases rx
    obtain ⟨its, _, p, _⟩ := I.tuple (sameT sm h)
    exact SeqAt.EqAt.str_tuple y t p hu1
  | @dct a kvs ds h _ =>
    cases rx
    obtain ⟨o, es, n, ho, hc, hdd, _⟩ := dict_at I (sm _ _ h)
    obtain ⟨c, dd, data, sl⟩ := o
    simp only at hc hdd
    subst hc hdd
    exact str_is_dict y t ho hu1
/-- x in ws, x any data, ws a list or tuple of texts -/
def rInW (K : PySem.W.Frag) (neg : Bool) : R2 := fun x y H Q => ∃ (p : Addr) (ws : List Str) (d : PyData) (G : Hp), y = .ref p ∧ (SqL K H p (ws.map V.str) ∨ SqT K H p (ws.map V.str)) ∧ Same G H ∧ Da K G x d ∧ Q (.bl (if neg then !inWs d ws else inWs d ws)) H
theorem in_words (hu : X.A.units + 64 < cLine) (I : Inv X pins σ H s) (sm : Same G H) {v : V} {d : PyData} {x : Value} (hd : Da X.K G v d) (rx : RelV v x) : ∀ {ws : List Str} {us : List Value}, Vals (ws.map V.str) us → ∀ u ∈ us, SeqAt.EqAt X.A.in1 s u x (eqW d u)
  | [], _, .nil => fun u hu => by cases hu
  | y :: ws, u :: us, .cons r t => fun u' hu' => by
    rcases List.mem_cons.mp hu' with rfl | hu'
    · obtain ⟨tk, rfl⟩ := r
      exact eq_word hu I sm hd rx y tk
    · exact in_words hu I sm hd rx t u' hu'
theorem op_inW (hu : X.A.units + 64 < cLine) : OpR X (compareOp .In) (rInW X.K false) := by
  intro pins s σ H x y v u Q I rx ry h
  obtain ⟨p, ws, d, G, rfl, hq, sm, hd, q⟩ := h
  cases ry
  have q : Q (.bl (inWs d ws)) H := q
  rcases hq with hq | hq
  · obtain ⟨its, r, pl, _⟩ := I.list hq
    refine SeqAt.in_listAt (eqW d) pl.isList (fun z hz => in_words hu I sm hd rx r z (by simpa using hz)) ⟨.bl _, H, I, rfl, ?_⟩
    rw [show its.toArray.any (eqW d) = its.any (eqW d) by simp, any_eqW r]
    exact q
  · obtain ⟨its, r, pl, _⟩ := I.tuple hq
    refine SeqAt.in_tupleAt (eqW d) pl (fun z hz => in_words hu I sm hd rx r z (by simpa using hz)) ⟨.bl _, H, I, rfl, ?_⟩
    rw [show its.toArray.any (eqW d) = its.any (eqW d) by simp, any_eqW r]
    exact q
theorem op_notInW (hu : X.A.units + 64 < cLine) : OpR X (compareOp .NotIn) (rInW X.K true) := by
  intro pins s σ H x y v u Q I rx ry h
  obtain ⟨p, ws, d, G, rfl, hq, sm, hd, q⟩ := h
  cases ry
  have q : Q (.bl (!inWs d ws)) H := q
  rcases hq with hq | hq
  · obtain ⟨its, r, pl, _⟩ := I.list hq
    refine SeqAt.notIn_listAt (eqW d) pl.isList (fun z hz => in_words hu I sm hd rx r z (by simpa using hz)) ⟨.bl _, H, I, rfl, ?_⟩
    rw [show its.toArray.any (eqW d) = its.any (eqW d) by simp, any_eqW r]
    exact q
  · obtain ⟨its, r, pl, _⟩ := I.tuple hq
    refine SeqAt.notIn_tupleAt (eqW d) pl (fun z hz => in_words hu I sm hd rx r z (by simpa using hz)) ⟨.bl _, H, I, rfl, ?_⟩
    rw [show its.toArray.any (eqW d) = its.any (eqW d) by simp, any_eqW r]
    exact q
end

/-! ### isinstance of data -/
def tyD : PyData → String
  | .none => "NoneType"
  | .bool _ => "bool"
  | .int _ => "int"
  | .str _ => "str"
  | .list _ => "list"
  | .tuple _ => "tuple"
  | .dict _ => "dict"
def isTup : PyData → Bool
  | .tuple _ => true
  | _ => false
def isStr : PyData → Bool
  | .str _ => true
  | _ => false
def rIsiD (K : PySem.W.Frag) : List V → Hp → VK → Prop := fun xs H Q => ∃ (x : V) (d : PyData) (G : Hp), Same G H ∧ Da K G x d ∧ ((xs = [x, .ty "tuple"] ∧ Q (.bl (isTup d)) H) ∨ (xs = [x, .ty "str"] ∧ Q (.bl (isStr d)) H))
section
variable {X : Cx} {pins : List (Addr × Obj)} {σ : St} {H G : Hp} {s : Shared}
theorem kit_da (I : Inv X pins σ H s) (sm : Same G H) {v : V} {d : PyData} {u : Value} (hd : Da X.K G v d) (rv : RelV v u) : ∃ P : Heap → Prop, PySem.W.KitX X.K u (.type (tyD d)) P ∧ P s.heap ∧ u ≠ .builtin "__main__.__loader__#opaque" := by
  cases hd with
  | non => cases rv; exact ⟨_, PySem.W.kitx_none, True.intro, fun z => nomatch z⟩
  | bl b => cases rv; exact ⟨_, PySem.W.kitx_bool, True.intro, fun z => nomatch z⟩
  | int i => obtain ⟨t, rfl⟩ := rv; exact ⟨_, PySem.W.kitx_int, True.intro, fun z => nomatch z⟩
  | str x => obtain ⟨t, rfl⟩ := rv; exact ⟨_, PySem.W.kitx_str, True.intro, fun z => nomatch z⟩
  | @lst a xs ds h _ =>
    cases rv
    obtain ⟨_, its, n, _, e⟩ := (show ObjOk X.prog X.w H s.heap a (.lst _) from I.hok a _ (sm _ _ h))
    exact ⟨_, PySem.W.kitx_list, ⟨_, e, rfl⟩, fun z => nomatch z⟩
  | @tup a xs ds h _ =>
    cases rv
    obtain ⟨its, _, ⟨o, ho, hc, _⟩, _⟩ := I.tuple (sameT sm h)
    exact ⟨_, PySem.W.kitx_tuple, ⟨o, ho, hc⟩, fun z => nomatch z⟩
  | @dct a kvs ds h _ =>
    cases rv
    obtain ⟨o, es, n, ho, hc, _⟩ := dict_at I (sm _ _ h)
    exact ⟨_, PySem.W.kitx_dict, ⟨o, ho, hc⟩, fun z => nomatch z⟩
theorem kitB_tup : ∀ d : PyData, kitB (tyD d) "tuple" = some (isTup d)
  | .none => by
    show kitB "NoneType" "tuple" = some false
    decide +kernel
  | .bool _ => by
    show kitB "bool" "tuple" = some false
    decide +kernel
  | .int _ => by
    show kitB "int" "tuple" = some false
    decide +kernel
  | .str _ => by
    show kitB "str" "tuple" = some false
    decide +kernel
  | .list _ => by
    show kitB "list" "tuple" = some false
    decide +kernel
  | .tuple _ => by
    show kitB "tuple" "tuple" = some true
    decide +kernel
  | .dict _ => by
    show kitB "dict" "tuple" = some false
    decide +kernel
theorem kitB_str : ∀ d : PyData, kitB (tyD d) "str" = some (isStr d)
  | .none => by
    show kitB "NoneType" "str" = some false
    decide +kernel
  | .bool _ => by
    show kitB "bool" "str" = some false
    decide +kernel
  | .int _ => by
    show kitB "int" "str" = some false
    decide +kernel
  | .str _ => by
    show kitB "str" "str" = some true
    decide +kernel
  | .list _ => by
    show kitB "list" "str" = some false
    decide +kernel
  | .tuple _ => by
    show kitB "tuple" "str" = some false
    decide +kernel
  | .dict _ => by
    show kitB "dict" "str" = some false
    decide +kernel
theorem call_isiD : CallR X (.builtin "isinstance") (rIsiD X.K) := by
  intro pins s σ H xs us Q I r h
  obtain ⟨x, d, G, sm, hd, h⟩ := h
  rcases h with ⟨rfl, q⟩ | ⟨rfl, q⟩
  · obtain ⟨u1, u2, rfl, r1, r2⟩ := vals2 r
    cases r2
    obtain ⟨P, Z, p, hx⟩ := kit_da I sm hd r1
    exact PySem.W.kia_one Z I.kIn p (kit_ty (kitB_tup d)) hx fun tk => ⟨.bl _, H, I.tok tk, rfl, q⟩
  · obtain ⟨u1, u2, rfl, r1, r2⟩ := vals2 r
    cases r2
    obtain ⟨P, Z, p, hx⟩ := kit_da I sm hd r1
    exact PySem.W.kia_one Z I.kIn p (kit_ty (kitB_str d)) hx fun tk => ⟨.bl _, H, I.tok tk, rfl, q⟩
end

/-! ### enumerate(t), t a tuple -/
section
theorem new_enum {v : Value} {o : Obj} {HB : Heap → Prop} (B : Begins v o HB) :
    Meets (Builtin.«enumerate.__new__» ⟨[.type "enumerate", v], []⟩) (fun _ R s => HB s.heap ∧
      R (.ok (.ret (.ref (s.heap.push o).objs.size))) { s with heap := (s.heap.push o).push { cls := .type "enumerate", data := .fields #[.none, .bool false, .ref s.heap.objs.size, rawInt 0, .none, .none] } }) :=
  .of_wp fun prog w A R s h => by
    obtain ⟨hp, g, d, tk, os⟩ := s
    obtain ⟨h1, h⟩ := h
    have hsub := sub_enumerate
    have q1 : ∀ {A' : Around} {E : Value → Shared → Prop} {Q : Value → Shared → Prop}, Q (.ref hp.objs.size) ⟨hp.push o, g, d, tk, os⟩ → wpAny (model prog w) A' (pyIter v) Q E ⟨hp, g, d, tk, os⟩ :=
      fun q => B.iter prog w _ _ ⟨hp, g, d, tk, os⟩ _ h1 q
    wp_walk using q1
    refine wpAny_stack_any fun st => wpAny_pure ?_
    split
    · rename_i c _ _ _ _ _
      cases (c == Value.type "enumerate")
      · wp_walk using q1
        exact ⟨_, rfl, h⟩
      · wp_walk using q1
        exact ⟨_, rfl, h⟩
    · wp_walk using q1
      exact ⟨_, rfl, h⟩
theorem enum_of {prog : Program} {w : World} {A : Around} {E : Value → Shared → Prop} {s : Shared} {v : Value} {o : Obj} {HB : Heap → Prop} {Q : Value → Shared → Prop} (B : Begins v o HB) (h1 : HB s.heap)
    (h : ∀ h', IsEnum h' (s.heap.objs.size + 1) s.heap.objs.size 0 .none → h'.get? s.heap.objs.size = some o → h'.objs.size = s.heap.objs.size + 2 →
      (∀ b u, s.heap.get? b = some u → h'.get? b = some u) → Q (.ref (s.heap.objs.size + 1)) { s with heap := h' }) :
    wpAny (model prog w) A (call (.type "enumerate") [v]) Q E s := by
  refine callType_new F.called_enumerate (by decide) (F.typeCall_enumerate_1 _) (F.newCall_enumerate_1 _) (fun obj => F.args_object_init_2 obj _) F.entry_enumerate_new (new_enum B) ⟨h1, ?_⟩
  have hz : (s.heap.push o).objs.size = s.heap.objs.size + 1 := Heap.size_push ..
  show _ ∧ _
  rw [hz]
  have he := Heap.get?_push_size (s.heap.push o) (o := { cls := .type "enumerate", data := .fields #[.none, .bool false, .ref s.heap.objs.size, rawInt 0, .none, .none] }) rfl
  rw [hz] at he
  refine ⟨⟨_, he, rfl⟩, h _ he (Heap.get?_push_of_some _ (Heap.get?_push_size _ B.free)) (by rw [Heap.size_push, hz]) fun b u q => Heap.get?_push_of_some _ (Heap.get?_push_of_some _ q)⟩
/-- the tuple's items with their places, in new pairs -/
def Iet (K : PySem.W.Frag) (a : Addr) : It :=
  ⟨fun i H => ∃ (xs : List V) (x : V), SqT K H a xs ∧ xs[i]? = some x,
    fun i H v H' => ∃ T x, v = .ref T ∧ H T = none ∧ H' = upd H T (.tup [.int (i : Nat), x]) ∧ ∀ xs, SqT K H a xs → xs[i]? = some x,
    fun i H => ∃ xs : List V, SqT K H a xs ∧ xs.length ≤ i⟩
theorem turn_enumT {P : Program} {w : World} {K : PySem.W.Frag} {elts : List Expr} {kk : Nat} {tpos : Pos} (a e it : Addr) :
    Turn P w K (.Tuple elts kk tpos) (Iet K a) [e, it] e (fun i h => (∃ old, IsEnum h e it ((i : Nat) : Int) old) ∧ h.IsTupleIter it a i ∧ e ≠ it ∧ a ≠ it ∧ a ≠ e) where
  mem := by simp
  obj := fun i h st b hb => by
    obtain ⟨⟨old, he⟩, ⟨o, ho, hc, hd⟩, _⟩ := st
    have e' : b = e ∨ b = it := by simpa using hb
    rcases e' with z | z
    · rw [z]; exact ⟨_, he, fun v q => nomatch q⟩
    · rw [z]; exact ⟨o, ho, fun v q => by rw [hd] at q; cases q⟩
  keep := fun i h h' st k => let ⟨⟨old, he⟩, hi, hne⟩ := st; ⟨⟨old, k e (by simp) _ he⟩, hi.at fun o q => k it (by simp) o q, hne⟩
  item := by
    intro X hP hw hK hc i pins s σ H E I hf st hg
    subst hP hw hK
    obtain ⟨⟨old, he⟩, hit, hne, hai, hae⟩ := st
    obtain ⟨xs, x, hq, hx⟩ := hg
    obtain ⟨its, rv, p, hz⟩ := I.tuple hq
    obtain ⟨u, hu, ru⟩ := rv.get hx
    have hel : e < s.heap.objs.size := Heap.lt_size he
    have hil : it < s.heap.objs.size := by obtain ⟨_, q, _⟩ := hit; exact Heap.lt_size q
    have hlt : i < its.toArray.size := by
      have q := (List.getElem?_eq_some_iff.mp hu).1
      simpa using q
    refine wpAny_pyNext_enum_itemD (Draws.tuple (A := X.A.in1) (I.ok.hd hc) it a hai its.toArray) he ⟨hit, p⟩ hlt hne (fun z => by
      have z : e = it ∨ e = a := by simpa using z
      rcases z with z | z
      · exact hne z
      · exact hae z.symm) fun y h' tk hP ho hst hT hsz hk => ?_
    have ey : y = u := by
      have z : its.toArray[i]? = some y := hP
      rw [List.getElem?_toArray, hu] at z
      cases z
      rfl
    subst ey
    refine ⟨_, rfl, wpAny_letOwnedTupleGo_enum (s := { s with heap := h', toks := tk + 1 }) ho fun h'' he' sb => ?_⟩
    have hT2 : h''.get? s.heap.objs.size = some { cls := .type "tuple", data := .seq #[.int i tk, y] } := (sb.2 _ (Nat.ne_of_gt hel)).trans hT
    have new : ObjOk X.prog X.w (upd H s.heap.objs.size (.tup [.int (i : Nat), x])) h'' s.heap.objs.size (.tup [.int (i : Nat), x]) :=
      ⟨by show 2 ≤ sizeLine; decide, [.int i tk, y], .cons ⟨_, rfl⟩ (.cons ru .nil), ⟨_, hT2, rfl, _, rfl⟩⟩
    have I1 : Inv X pins σ (upd H s.heap.objs.size (.tup [.int (i : Nat), x])) { s with heap := h'', toks := tk + 1 } :=
      I.turnedNew (ch := [e, it]) (fun b ob hb q => (sb.2 b (fun z => hb (by simp [z]))).trans (hk b ob (fun z => hb (by simp [z])) (fun z => hb (by simp [z])) q)) hf (Nat.le_refl _) new
    refine ⟨.ref s.heap.objs.size, _, I1, rfl, ⟨_, x, rfl, I.hok.fresh (Nat.le_refl _), rfl, fun ys hy => by rw [I.tuple_inj hy hq]; exact hx⟩, ⟨⟨y, ?_⟩, hst.1.at fun o q => (sb.2 it (Ne.symm hne)).trans q, hne, hai, hae⟩, fun b hb => ?_⟩
    · have e1 : ((i + 1 : Nat) : Int) = (i : Int) + 1 := by omega
      rw [e1]; exact he'
    · have hb' : b < s.heap.objs.size := by
        have e' : b = e ∨ b = it := by simpa using hb
        rcases e' with z | z
        · rw [z]; exact hel
        · rw [z]; exact hil
      rw [upd_ne (Nat.ne_of_lt hb')]
      exact (hf b hb).1
  done := by
    intro X hP hw hK hc i pins s σ H E I hf st hg
    subst hP hw hK
    obtain ⟨⟨old, he⟩, hit, hne, hai, hae⟩ := st
    obtain ⟨xs, hq, hx⟩ := hg
    obtain ⟨its, rv, p, hz⟩ := I.tuple hq
    obtain ⟨f0, f1, f2, f3, f4, f5⟩ := hf it (by simp)
    have hl := rv.length
    have hh : X.A.in1.handled = none := I.ok.hd hc
    have D := Draws.tuple (prog := X.prog) (w := X.w) (A := X.A.in1) hh it a hai its.toArray
    have hT : s.TypeIs (.ref e) "enumerate" := ⟨_, he, rfl⟩
    have hx' : its.toArray[i]? = none := by simp; omega
    unfold pyNext
    refine wpAny_bind (wpAny_attempt (wpAny_callSpecial?_slot (name := Str.ofString "__next__") hT F.slot_enumerate_next
      (wpAny_call_entry F.slot_enumerate_next hT F.entry_enumerate_next ?_ (F.args_enumerate_next_1 _))))
    show wpAny _ _ (field (.ref e) 2 >>= _) _ _ _
    refine wpAny_bind (wpAny_field he rfl (x := .ref it) rfl ?_)
    refine wpAny_bind (wpAny_nextOf_tuple_end hh hit p hx' fun h' x eb ht => ?_)
    obtain ⟨o, ho, hcl⟩ := ht
    refine wpAny_bind (wpAny_isInstance (T := "StopIteration") (b := true) ⟨o, ho, hcl⟩ isSubtype_stop ?_)
    exact wpAny_pure ⟨rfl, I.turned (t' := s.toks) (fun b o hb q => eb b o hb q) f0 f1 f3 f4 f5⟩
  self := fun A i s Q E st h => let ⟨⟨_, he⟩, _⟩ := st; wpAny_pyIter_enum he h
def iEnumT (K : PySem.W.Frag) (ta : TA) : TI := fun σ H R => ta σ H fun vs H1 => ∃ a xs, vs = [.ref a] ∧ SqT K H1 a xs ∧ R (Iet K a) H1
theorem pi_enumT {X : Cx} {e : Expr} {ta : TA} {p pos tpos : Pos} {elts : List Expr} {kk : Nat} (hg : Gl X "enumerate") (hm : X.mg "enumerate" = none) (ha : PA X [e] ta) (hs : starEach [e] X.env = [(false, eval e X.env)] := by rfl) :
    PI X (.Tuple elts kk tpos) (.Call (.Name "enumerate" p) [e] [] pos) (iEnumT X.K ta) := by
  refine ⟨fun pins s σ H R I h => ?_⟩
  refine Call_ (ld_blt I hg hm boot_enumerate (PyProof.Rows.callWith_type1 (thn (ha.run pos pins s σ H _ I h) fun us s1 ⟨vs, H1, I1, r1, q1⟩ => ?_) hs rfl))
  obtain ⟨a, xs, rfl, hq, q⟩ := q1
  obtain ⟨u, rfl, r⟩ := vals1 r1
  cases r
  obtain ⟨its, rv, p', hz⟩ := I1.tuple hq
  have hlt : a < s1.heap.objs.size := p'.lt
  refine enum_of (begins_tuple a its.toArray) p' fun h' he hit hsz hk => wpAny_pyIter_enum he ?_
  have I2 : Inv X pins σ H1 { s1 with heap := h' } := I1.kept (t' := s1.toks) hk
  refine ⟨s1.heap.objs.size + 1, [s1.heap.objs.size + 1, s1.heap.objs.size], _, _, H1, rfl, I2, turn_enumT a (s1.heap.objs.size + 1) s1.heap.objs.size, ⟨⟨.none, he⟩, ⟨_, hit, rfl, rfl⟩, Nat.succ_ne_self _, Nat.ne_of_lt hlt, Nat.ne_of_lt (Nat.lt_succ_of_lt hlt)⟩, fun b hb => ?_, q⟩
  have e' : b = s1.heap.objs.size + 1 ∨ b = s1.heap.objs.size := by simpa using hb
  have hle : s1.heap.objs.size ≤ b := by
    rcases e' with z | z
    · rw [z]; exact Nat.le_add_right _ _
    · rw [z]; exact Nat.le_refl _
  exact I1.fpOk hle (I1.hok.fresh hle)
/-- for i, x in enumerate(t): the tuple stands, the pair is new -/
theorem for_enumT {K : PySem.W.Frag} {a : Addr} {xs : List V} {g : TG} {tb : TS} {D : Ends} {σ : St} {H : Hp} (Pv : Nat → St → Hp → Prop) (h0 : Pv 0 σ H) (hl : ∀ i σ H, i ≤ xs.length → Pv i σ H → SqT K H a xs)
    (hs : ∀ (i : Nat) (x : V) (T : Addr) (σ : St) (H : Hp), xs[i]? = some x → Pv i σ H → H T = none → g (.ref T) σ (upd H T (.tup [.int (i : Nat), x])) fun σ2 H2 => tb { D with nx := Pv (i + 1), ct := Pv (i + 1), bk := D.nx } σ2 H2)
    (hd : ∀ σ H, Pv xs.length σ H → D.nx σ H) : ∃ W : Nat → Nat → St → Hp → Prop, (∃ m, W 0 m σ H) ∧ ∀ i m σ H, W i m σ H →
      ((Iet K a).stop i H ∧ D.nx σ H) ∨ ((Iet K a).go i H ∧ ∃ N : St → Hp → Prop, (∀ σ2 H2, N σ2 H2 → ∃ m2, m2 < m ∧ W (i + 1) m2 σ2 H2) ∧ ∀ x H2, (Iet K a).yld i H x H2 → g x σ H2 fun σ3 H3 => tb { D with nx := N, ct := N, bk := D.nx } σ3 H3) := by
  refine ⟨fun i m σ H => m = xs.length - i ∧ i ≤ xs.length ∧ Pv i σ H, ⟨xs.length, by simp, Nat.zero_le _, h0⟩, ?_⟩
  rintro i m σ H ⟨rfl, hi, p⟩
  have q := hl i σ H hi p
  rcases Nat.lt_or_ge i xs.length with hlt | hge
  · refine .inr ⟨⟨xs, xs[i], q, by simp [hlt]⟩, Pv (i + 1), fun σ2 H2 p2 => ⟨xs.length - (i + 1), by omega, rfl, hlt, p2⟩, fun x H2 y => ?_⟩
    obtain ⟨T, z, rfl, hT, rfl, y⟩ := y
    exact hs i z T σ H (y xs q) p hT
  · have e : i = xs.length := by omega
    subst e
    exact .inl ⟨⟨xs, q, Nat.le_refl _⟩, hd σ H p⟩
end
end L2.Hx

/-! Defs of the text as promises; the law's deck beside a part G of the heap that never changes. -/
namespace L2.Hx
open PySem PySem.Spec PyProof.Rows

/-- a def of the text, where it stands -/
structure Src (K : PySem.W.Frag) (mg : Str → Option Value) (x : Str) (st : Stmt) (ps : List Str) (f : Addr) (fd : FuncData) : Prop where
  fn : Fun K x x st f fd
  at_ : mg x = some (.ref f)
  bd : Binds K fd ps []
/-- a def with its promise -/
structure Df (P : Program) (w : World) (K : PySem.W.Frag) (mg : Str → Option Value) (base : Heap) (k : Nat) (x : Str) (ps : List Str) (sp : Sp) : Prop where
  ex : ∃ (f : Addr) (fd : FuncData), FnG P w K mg base CX0 k f fd ps sp ∧ mg x = some (.ref f) ∧ PySem.W.keepIn K (.ref f) = true ∧ Binds K fd ps []
section
variable {P : Program} {w : World} {K : PySem.W.Frag} {mg : Str → Option Value} {base : Heap} {k : Nat} {x : Str} {ps : List Str} {sp : Sp}
theorem Df.mk' {st : Stmt} {N : List Str} {f : Addr} {fd : FuncData} (S : Src K mg x st ps f fd) (sc : FnScope N ps (defScope st)) (hn : ∀ vs H Q E, sp vs H Q E → vs.length = ps.length)
    (hbody : ∀ (cdv : Value) (A : Around) (outer : List Env) (s : Shared) (H : Hp) (vs : List V) (Q : VK) (E : XK), (A.deeper (envOfC x (defScope st) s.heap.objs.size f cdv)).guards = some [] → Room k (A.deeper (envOfC x (defScope st) s.heap.objs.size f cdv)) → sp vs H Q E →
      ∃ t, PSs (cxOf CX0 P w K mg base N x (defScope st) f cdv A outer s H E).nox (defBody st) t ∧ t { nx := fun _ H' => Q .non H', rt := Q } (start N vs) H) : Df P w K mg base (k + 1) x ps sp :=
  ⟨f, fd, okG S.fn sc hn hbody, S.at_, S.fn.kp, S.bd⟩
/-- a def with its promise and its text -/
def DfS (P : Program) (w : World) (K : PySem.W.Frag) (mg : Str → Option Value) (base : Heap) (k : Nat) (x : Str) (st : Stmt) (ps : List Str) (sp : Sp) : Prop := ∃ (f : Addr) (fd : FuncData), FnG P w K mg base CX0 k f fd ps sp ∧ Src K mg x st ps f fd
theorem DfS.mk' {st : Stmt} {N : List Str} {f : Addr} {fd : FuncData} (S : Src K mg x st ps f fd) (sc : FnScope N ps (defScope st)) (hn : ∀ vs H Q E, sp vs H Q E → vs.length = ps.length)
    (hbody : ∀ (cdv : Value) (A : Around) (outer : List Env) (s : Shared) (H : Hp) (vs : List V) (Q : VK) (E : XK), (A.deeper (envOfC x (defScope st) s.heap.objs.size f cdv)).guards = some [] → Room k (A.deeper (envOfC x (defScope st) s.heap.objs.size f cdv)) → sp vs H Q E →
      ∃ t, PSs (cxOf CX0 P w K mg base N x (defScope st) f cdv A outer s H E).nox (defBody st) t ∧ t { nx := fun _ H' => Q .non H', rt := Q } (start N vs) H) : DfS P w K mg base (k + 1) x st ps sp := ⟨f, fd, okG S.fn sc hn hbody, S⟩
theorem DfS.df {st : Stmt} (D : DfS P w K mg base k x st ps sp) : Df P w K mg base k x ps sp := let ⟨f, fd, a, S⟩ := D; ⟨f, fd, a, S.at_, S.fn.kp, S.bd⟩
/-- .. by keywords -/
theorem DfS.kw {st : Stmt} {ks : List Str} {g : {α : Type} → List α → List α} (D : DfS P w K mg base k x st ps sp) (h : ∀ (kV doc pm : Value) (an : Option Addr) (cdv ct : Value) (ws : List Value), ws.length = ps.length → bindArgs (PySem.W.fnOf x x (defArgs st) (defBody st) (defScope st) .none kV doc pm an cdv ct) ⟨[], ks.zip ws⟩ = pure (ps.zip (g ws))) :
    ∃ f fd, FnG P w K mg base CX0 k f fd ps sp ∧ mg x = some (.ref f) ∧ PySem.W.keepIn K (.ref f) = true ∧ KwBinds K fd ps ks g := by
  obtain ⟨f, fd, a, S⟩ := D
  refine ⟨f, fd, a, S.at_, S.fn.kp, ?_⟩
  obtain ⟨oc, od, kV, doc, pm, an, cdv, ct, osl, rfl, lk, hcd⟩ := S.fn.ex
  exact fun s ws _ hl => .of_eq (h kV doc pm an cdv ct ws hl)
theorem Df.mono {j : Nat} (F : Df P w K mg base j x ps sp) (h : j ≤ k) : Df P w K mg base k x ps sp := let ⟨f, fd, a, b, c, d⟩ := F.ex; ⟨f, fd, a.mono h, b, c, d⟩
theorem Df.imp {sp' : Sp} (F : Df P w K mg base k x ps sp) (h : ∀ vs H Q E, sp' vs H Q E → sp vs H Q E) : Df P w K mg base k x ps sp' := let ⟨f, fd, a, b, c, d⟩ := F.ex; ⟨f, fd, a.imp h, b, c, d⟩
end
section
variable {X : Cx} {k j : Nat} {x : Str} {ps : List Str} {sp : Sp} {p pos : Pos} {e : Expr} {es : List Expr} {t : TA}
theorem pe_d (F : Df X.prog X.w X.K X.mg X.base k x ps sp) (hgd : X.A.guards = some []) (hr : Room j X.A) (ha : PA X (e :: es) t) (hj : k ≤ j := by first | exact Nat.le_refl _ | decide) (hg : Gl X x := by rfl)
    (hdb : (x == ("__debug__" : Str)) = false := by decide) (he : starEach (e :: es) X.env = (false, eval e X.env) :: starEach es X.env := by rfl) (hpl : (backTo pos (starEach es X.env)).any (·.1) = false := by rfl) :
    PE X (.Call (.Name x p) (e :: es) [] pos) (tCall sp [] E0 t) := by
  obtain ⟨f, fd, a, b, c, d⟩ := F.ex
  exact pe_g a hgd (hr.mono hj) hg b c d .nil pass0 ha hdb he hpl
theorem pe_d0 (F : Df X.prog X.w X.K X.mg X.base k x ps sp) (hgd : X.A.guards = some []) (hr : Room j X.A) (hj : k ≤ j := by first | exact Nat.le_refl _ | decide) (hg : Gl X x := by rfl) (hdb : (x == ("__debug__" : Str)) = false := by decide) :
    PE X (.Call (.Name x p) [] [] pos) (tCall sp [] E0 tNil) := by
  obtain ⟨f, fd, a, b, c, d⟩ := F.ex
  exact pe_g0 a hgd (hr.mono hj) hg b c d .nil pass0 hdb
end

/-! ### the deck -/
abbrev kGreat : Key := .inr "great"
abbrev kMixed : Key := .inr "mixed"
abbrev kTurns : Key := .inr "turns"
def deckD (l : Addr) (m t : Int) : List (Key × V) := [(kGreat, .ref l), (kMixed, .int m), (kTurns, .int t)]
theorem gm_ : ¬ kGreat = kMixed := of_decide_eq_false (by decide +kernel)
theorem gt_ : ¬ kGreat = kTurns := of_decide_eq_false (by decide +kernel)
theorem mt_ : ¬ kMixed = kTurns := of_decide_eq_false (by decide +kernel)
theorem deck_great (l : Addr) (m t : Int) : valV (deckD l m t) kGreat = some (.ref l) := by
  simp [valV, deckD, List.find?_cons]
theorem deck_mixed (l : Addr) (m t : Int) : valV (deckD l m t) kMixed = some (.int m) := by
  have h1 : decide (("great" : Str) = "mixed") = false := by decide +kernel
  simp [valV, deckD, List.find?_cons, h1]
theorem deck_turns (l : Addr) (m t : Int) : valV (deckD l m t) kTurns = some (.int t) := by
  have h1 : decide (("great" : Str) = "turns") = false := by decide +kernel
  have h2 : decide (("mixed" : Str) = "turns") = false := by decide +kernel
  simp [valV, deckD, List.find?_cons, h1, h2]
theorem deck_put_turns (l : Addr) (m t u : Int) : putK (deckD l m t) kTurns (.int u) = deckD l m u := by
  unfold putK deckD
  have h1 : decide (kGreat = kTurns) = false := by decide +kernel
  have h2 : decide (kMixed = kTurns) = false := by decide +kernel
  have h3 : decide (kTurns = kTurns) = true := by decide +kernel
  have n1 : ¬ kGreat = kTurns := of_decide_eq_false h1
  have n2 : ¬ kMixed = kTurns := of_decide_eq_false h2
  simp [List.any_cons, List.map_cons, n1, n2]
theorem deck_put_mixed (l : Addr) (m t u : Int) : putK (deckD l m t) kMixed (.int u) = deckD l u t := by
  unfold putK deckD
  have h1 : decide (kGreat = kMixed) = false := by decide +kernel
  have h2 : decide (kTurns = kMixed) = false := by decide +kernel
  have n1 : ¬ kGreat = kMixed := of_decide_eq_false h1
  have n2 : ¬ kTurns = kMixed := of_decide_eq_false h2
  simp [List.any_cons, List.map_cons, n1, n2]

/-- the deck stands at p with its list at l; G, which tracks neither, is a part of H -/
structure Wd (p l : Addr) (G H : Hp) : Prop where
  same : Same G H
  gp : G p = none
  gl : G l = none
  dk : ∃ m t : Int, 0 ≤ m ∧ m < 4294967291 ∧ H p = some (.dK (deckD l m t))
  ls : ∃ ns : List Int, ns.length ≤ 63 ∧ H l = some (.lst (ns.map V.int))
theorem Wd.ne {p l : Addr} {G H : Hp} (W : Wd p l G H) : p ≠ l := by
  obtain ⟨_, _, _, _, h1⟩ := W.dk
  obtain ⟨_, _, h2⟩ := W.ls
  exact ne_of h1 h2 (by intro q; cases q)
theorem Wd.np {p l : Addr} {G H : Hp} (W : Wd p l G H) {a : Addr} (h : H a = none) : a ≠ p := by
  obtain ⟨_, _, _, _, h1⟩ := W.dk
  intro e
  rw [e, h1] at h
  cases h
theorem Wd.nl {p l : Addr} {G H : Hp} (W : Wd p l G H) {a : Addr} (h : H a = none) : a ≠ l := by
  obtain ⟨_, _, h1⟩ := W.ls
  intro e
  rw [e, h1] at h
  cases h
/-- from one state to a later one: the deck may have been drawn from, G may have grown by new objects -/
structure Ext (p l : Addr) (G H G' H' : Hp) : Prop where
  w : Wd p l G' H'
  sub : Same G G'
  keep : ∀ b o, b ≠ p → b ≠ l → H b = some o → H' b = some o
  new : ∀ b o, H b = some o → G b = none → G' b = none
section
variable {p l : Addr} {G H G1 H1 G2 H2 : Hp}
theorem Ext.refl (W : Wd p l G H) : Ext p l G H G H := ⟨W, Same.refl G, fun _ _ _ _ h => h, fun _ _ _ h => h⟩
theorem Ext.trans (a : Ext p l G H G1 H1) (W : Wd p l G H) (b : Ext p l G1 H1 G2 H2) : Ext p l G H G2 H2 :=
  ⟨b.w, a.sub.trans b.sub, fun c o n1 n2 h => b.keep c o n1 n2 (a.keep c o n1 n2 h), fun c o h g => by
    have g1 := a.new c o h g
    by_cases n1 : c = p
    · subst n1; exact b.w.gp
    · by_cases n2 : c = l
      · subst n2; exact b.w.gl
      · exact b.new c o (a.keep c o n1 n2 h) g1⟩
/-- a new object, kept in G -/
theorem Wd.put (W : Wd p l G H) {a : Addr} {o : HO} (h : H a = none) : Ext p l G H (upd G a o) (upd H a o) := by
  have ga : G a = none := W.same.free h
  have np := W.np h
  have nl := W.nl h
  refine ⟨⟨fun b u q => ?_, by rw [upd_ne np.symm]; exact W.gp, by rw [upd_ne nl.symm]; exact W.gl, ?_, ?_⟩, fun b u q => ?_, fun b u _ _ q => ?_, fun b u q g => ?_⟩
  · by_cases e : b = a
    · subst e; rw [upd_same] at q ⊢; exact q
    · rw [upd_ne e] at q ⊢; exact W.same b u q
  · obtain ⟨m, t, m0, m1, e⟩ := W.dk
    exact ⟨m, t, m0, m1, by rw [upd_ne np.symm]; exact e⟩
  · obtain ⟨ns, z, e⟩ := W.ls
    exact ⟨ns, z, by rw [upd_ne nl.symm]; exact e⟩
  · rw [upd_ne (ne_of_none q ga)]; exact q
  · rw [upd_ne (ne_of_none q h)]; exact q
  · rw [upd_ne (ne_of_none q h)]; exact g
/-- a new object, not kept in G -/
theorem Wd.tmp (W : Wd p l G H) {a : Addr} {o : HO} (h : H a = none) : Ext p l G H G (upd H a o) := by
  have ga : G a = none := W.same.free h
  have np := W.np h
  have nl := W.nl h
  refine ⟨⟨fun b u q => ?_, W.gp, W.gl, ?_, ?_⟩, Same.refl G, fun b u _ _ q => ?_, fun b u q g => g⟩
  · rw [upd_ne (ne_of_none q ga)]; exact W.same b u q
  · obtain ⟨m, t, m0, m1, e⟩ := W.dk
    exact ⟨m, t, m0, m1, by rw [upd_ne np.symm]; exact e⟩
  · obtain ⟨ns, z, e⟩ := W.ls
    exact ⟨ns, z, by rw [upd_ne nl.symm]; exact e⟩
  · rw [upd_ne (ne_of_none q h)]; exact q
/-- an object of one's own, not in G, is changed -/
theorem Wd.own (W : Wd p l G H) {a : Addr} {o : HO} (hp : a ≠ p) (hl : a ≠ l) (hg : G a = none) : Wd p l G (upd H a o) := by
  refine ⟨fun b u q => ?_, W.gp, W.gl, ?_, ?_⟩
  · rw [upd_ne (ne_of_none q hg)]; exact W.same b u q
  · obtain ⟨m, t, m0, m1, e⟩ := W.dk
    exact ⟨m, t, m0, m1, by rw [upd_ne hp.symm]; exact e⟩
  · obtain ⟨ns, z, e⟩ := W.ls
    exact ⟨ns, z, by rw [upd_ne hl.symm]; exact e⟩
/-- an object of one's own is kept from now on -/
theorem Wd.hold (W : Wd p l G H) {a : Addr} {o : HO} (hp : a ≠ p) (hl : a ≠ l) (hg : G a = none) (h : H a = some o) : Wd p l (upd G a o) H ∧ Same G (upd G a o) := by
  refine ⟨⟨fun b u q => ?_, by rw [upd_ne hp.symm]; exact W.gp, by rw [upd_ne hl.symm]; exact W.gl, W.dk, W.ls⟩, fun b u q => ?_⟩
  · by_cases e : b = a
    · subst e; rw [upd_same] at q; rw [← q]; exact h
    · rw [upd_ne e] at q; exact W.same b u q
  · rw [upd_ne (ne_of_none q hg)]; exact q
end
end L2.Hx

/-! How long the text of data can be. -/
namespace L2.Hx
open PySem PySem.Spec PyProof.Rows
mutual
def okB : PyData → Bool
  | .none | .bool _ => true
  | .int i => decide (i.natAbs.log2 < 1920)
  | .str x => x.cps.toList.all fun c => decide (c < 1114112)
  | .list xs | .tuple xs => okAll xs
  | .dict kvs => okKv kvs
def okAll : List PyData → Bool
  | [] => true
  | x :: xs => okB x && okAll xs
def okKv : List (PyData × PyData) → Bool
  | [] => true
  | (k, v) :: r => okB k && okB v && okKv r
end
mutual
/-- no less than the signs of its text -/
def siz : PyData → Nat
  | .none | .bool _ => 5
  | .int _ => 1921
  | .str x => 10 * x.length + 2
  | .list xs | .tuple xs => sizAll xs + 3
  | .dict kvs => sizKv kvs + 2
def sizAll : List PyData → Nat
  | [] => 0
  | x :: xs => siz x + 2 + sizAll xs
def sizKv : List (PyData × PyData) → Nat
  | [] => 0
  | (k, v) :: r => siz k + siz v + 4 + sizKv r
end
theorem okAll_of : ∀ {xs : List PyData}, (∀ x ∈ xs, okB x = true) → okAll xs = true
  | [], _ => rfl
  | x :: xs, h => by
    rw [okAll, h x List.mem_cons_self, okAll_of fun y m => h y (List.mem_cons_of_mem _ m)]
    rfl
theorem sizAll_le {n : Nat} : ∀ {xs : List PyData}, (∀ x ∈ xs, siz x ≤ n) → sizAll xs ≤ (n + 2) * xs.length
  | [], _ => by simp [sizAll]
  | x :: xs, h => by
    have h1 := h x List.mem_cons_self
    have h2 := sizAll_le fun y m => h y (List.mem_cons_of_mem x m)
    rw [sizAll, List.length_cons, Nat.mul_add, Nat.mul_one]
    omega
theorem depthAll_le {n : Nat} : ∀ {xs : List PyData}, (∀ x ∈ xs, x.depth ≤ n) → PyData.depthAll xs ≤ n
  | [], _ => by simp [PyData.depthAll]
  | x :: xs, h => by
    have h1 := h x List.mem_cons_self
    have h2 := depthAll_le fun y m => h y (List.mem_cons_of_mem x m)
    rw [PyData.depthAll]
    omega
theorem textFrom0 (ts : List Str) (acc : Str) : (textFrom 0 acc ts).length ≤ acc.length + piled ts := by
  have h := textFrom_len ts 0 acc
  cases ts with
  | nil => exact Nat.le_add_right _ _
  | cons t r =>
    show (textFrom 1 (acc ++ t) r).length ≤ _
    rw [textFrom_length_pos r 1 (acc ++ t) Nat.one_pos, strLen_append, piled_cons]
    omega
theorem listText_le (ts : List Str) : (listText ts).length ≤ piled ts + 2 := by
  have h := textFrom0 ts "["
  unfold listText
  rw [strLen_append]
  have e1 : (("[" : Str)).length = 1 := rfl
  have e2 : (("]" : Str)).length = 1 := rfl
  omega
theorem dictText_le (ts : List Str) : (dictText ts).length ≤ piled ts + 2 := by
  have e1 : (("{" : Str)).length = 1 := rfl
  have e2 : (("}" : Str)).length = 1 := rfl
  unfold dictText
  rw [strLen_append, strLen_append]
  by_cases h : ts = []
  · subst h
    decide +kernel
  · have := join_length_add ts h
    omega
theorem int_len {i : Int} (h : i.natAbs.log2 < 1920) : (Str.ofString (toString i)).length ≤ 1921 := by
  have e := int_text_length_le (k := 1920) (by decide) h
  rw [PySem.ofString_length]
  omega
mutual
theorem ok_show : ∀ {d : PyData}, okB d = true → d.showable = true ∧ d.shown.length ≤ siz d
  | .none, _ => ⟨rfl, by simp only [PyData.shown, siz]; decide⟩
  | .bool b, _ => ⟨rfl, by simp only [PyData.shown, siz]; cases b <;> decide⟩
  | .int i, h => ⟨by simpa [PyData.showable, okB] using h, by simp only [PyData.shown, siz]; exact int_len (by simpa [okB] using h)⟩
  | .str x, h => ⟨rfl, by
      simp only [PyData.shown, siz]
      rw [okB, List.all_eq_true] at h
      exact StrLaws.reprText_len x fun c m => Nat.lt_trans (of_decide_eq_true (h c m)) (by decide)⟩
  | .list xs, h => by
    obtain ⟨a, b⟩ := ok_showAll (xs := xs) (by simpa [okB] using h)
    refine ⟨by simpa [PyData.showable] using a, ?_⟩
    simp only [PyData.shown, siz]
    exact Nat.le_trans (listText_le _) (by omega)
  | .tuple xs, h => by
    obtain ⟨a, b⟩ := ok_showAll (xs := xs) (by simpa [okB] using h)
    refine ⟨by simpa [PyData.showable] using a, ?_⟩
    simp only [PyData.shown, siz]
    exact Nat.le_trans (fmt_text _) (by omega)
  | .dict kvs, h => by
    obtain ⟨a, b⟩ := ok_showKv (kvs := kvs) (by simpa [okB] using h)
    refine ⟨by simpa [PyData.showable] using a, ?_⟩
    simp only [PyData.shown, siz]
    exact Nat.le_trans (dictText_le _) (by omega)
theorem ok_showAll : ∀ {xs : List PyData}, okAll xs = true → PyData.showableAll xs = true ∧ piled (PyData.shownAll xs) ≤ sizAll xs
  | [], _ => ⟨rfl, by simp [PyData.shownAll, piled_nil]⟩
  | x :: xs, h => by
    rw [okAll, Bool.and_eq_true] at h
    obtain ⟨a, b⟩ := ok_show h.1
    obtain ⟨c, d⟩ := ok_showAll h.2
    refine ⟨by rw [PyData.showableAll, a, c]; rfl, ?_⟩
    rw [PyData.shownAll, piled_cons, sizAll]
    omega
theorem ok_showKv : ∀ {kvs : List (PyData × PyData)}, okKv kvs = true → PyData.showableKv kvs = true ∧ piled (PyData.shownKv kvs) ≤ sizKv kvs
  | [], _ => ⟨rfl, by simp [PyData.shownKv, piled_nil]⟩
  | (k, v) :: r, h => by
    rw [okKv, Bool.and_eq_true, Bool.and_eq_true] at h
    obtain ⟨a, b⟩ := ok_show h.1.1
    obtain ⟨a2, b2⟩ := ok_show h.1.2
    obtain ⟨c, d⟩ := ok_showKv h.2
    refine ⟨by rw [PyData.showableKv, a, a2, c]; rfl, ?_⟩
    rw [PyData.shownKv, piled_cons, sizKv, strLen_append, strLen_append]
    have e1 : ((": " : Str)).length = 2 := rfl
    omega
end
/-- data that repr can tell: at most k deep, of a text of at most n signs -/
structure Okd (k n : Nat) (d : PyData) : Prop where
  ok : okB d = true
  dp : d.depth ≤ k
  sz : siz d ≤ n
theorem Okd.mono {k n k2 n2 : Nat} {d : PyData} (h : Okd k n d) (hk : k ≤ k2 := by decide) (hn : n ≤ n2 := by decide) : Okd k2 n2 d := ⟨h.ok, Nat.le_trans h.dp hk, Nat.le_trans h.sz hn⟩
theorem Okd.tup {k n m N : Nat} {ds : List PyData} (h : ∀ d ∈ ds, Okd k n d) (hl : ds.length ≤ m) (hN : (n + 2) * m + 3 ≤ N := by decide) : Okd (k + 1) N (.tuple ds) := by
  refine ⟨okAll_of fun d hd => (h d hd).ok, ?_, ?_⟩
  · have := depthAll_le fun d hd => (h d hd).dp
    simp only [PyData.depth]
    omega
  · have h1 := sizAll_le fun d hd => (h d hd).sz
    have h2 : (n + 2) * ds.length ≤ (n + 2) * m := Nat.mul_le_mul_left _ hl
    show sizAll ds + 3 ≤ N
    omega
theorem Okd.list {k n m N : Nat} {ds : List PyData} (h : ∀ d ∈ ds, Okd k n d) (hl : ds.length ≤ m) (hN : (n + 2) * m + 3 ≤ N := by decide) : Okd (k + 1) N (.list ds) := by
  have a := Okd.tup h hl hN
  exact ⟨a.ok, a.dp, a.sz⟩
theorem Okd.kids {k n : Nat} {ds : List PyData} (h : Okd (k + 1) n (.tuple ds)) : ∀ d ∈ ds, Okd k n d := by
  have h1 : okAll ds = true := h.ok
  have h2 : PyData.depthAll ds ≤ k := by
    have := h.dp
    simp only [PyData.depth] at this
    omega
  have h3 : sizAll ds ≤ n := by
    have := h.sz
    rw [siz] at this
    omega
  clear h
  induction ds with
  | nil => intro d hd; cases hd
  | cons x xs ih =>
    rw [okAll, Bool.and_eq_true] at h1
    rw [PyData.depthAll] at h2
    rw [sizAll] at h3
    intro d hd
    rcases List.mem_cons.mp hd with rfl | hd
    · exact ⟨h1.1, by omega, by omega⟩
    · exact ih h1.2 (by omega) (by omega) d hd
theorem Okd.shown {k n : Nat} {d : PyData} (h : Okd k n d) (hk : k ≤ 60) (hn : n ≤ sizeLine) : d.showable = true ∧ d.depth ≤ 60 ∧ d.shown.length ≤ sizeLine :=
  let ⟨a, b⟩ := ok_show h.ok
  ⟨a, Nat.le_trans h.dp hk, Nat.le_trans b (Nat.le_trans h.sz hn)⟩
end L2.Hx

/-! What a saying is, twice: as the program looks, and as the law does. -/
namespace L2.Hx
open PySem PySem.Spec PyProof.Rows
def w_WORDS : List Str := ["nil", "result", "fun", "head", "foot", "with", "var", "if", "else", "while", "keep", "new", "free", "any", "cell", "list", "empty", "is", "isnt"]
def w_LOOK_WORDS : List Str := ["is", "isnt"]
def w_PART_WORDS : List Str := ["cell", "list"]
def w_nr : List Str := ["nil", "result"]
def abc : List Nat := ("abcdefghijklmnopqrstuvwxyz" : Str).cps.toList
def letters (z : Str) : Bool := z.cps.toList.all fun c => decide (c ∈ abc)
def lenOk (z : Str) : Bool := decide (1 ≤ (z.length : Int)) && decide ((z.length : Int) ≤ 8)
def nameP (d : PyData) : Bool := match d with
  | .str z => lenOk z && (!decide (z ∈ w_WORDS) && letters z)
  | _ => false
def termP (d : PyData) : Bool := inWs d w_nr || nameP d
def termL (d : PyData) : Bool := match d with
  | .str z => lenOk z && (letters z && (decide (z ∈ w_nr) || !decide (z ∈ w_WORDS)))
  | _ => false
theorem term_eq (d : PyData) : termP d = termL d := by
  cases d with
  | str z =>
    by_cases h : z ∈ w_nr
    · rcases List.mem_cons.mp h with e | h2
      · subst e
        decide +kernel
      · rcases List.mem_cons.mp h2 with e | h3
        · subst e
          decide +kernel
        · cases h3
    · have e1 : decide (z ∈ w_nr) = false := decide_eq_false h
      show (decide (z ∈ w_nr) || (lenOk z && (!decide (z ∈ w_WORDS) && letters z))) = (lenOk z && (letters z && (decide (z ∈ w_nr) || !decide (z ∈ w_WORDS))))
      rw [e1, Bool.false_or, Bool.false_or]
      cases lenOk z <;> cases letters z <;> cases decide (z ∈ w_WORDS) <;> rfl
  | _ => rfl
def rowD (ws : List Str) (d : PyData) : Bool := match d with
  | .tuple [a, b, c] => inWs a ws && (termL b && termL c)
  | _ => false
def rowsD (ws : List Str) (most : Int) (d : PyData) : Bool := match d with
  | .tuple ds => decide ((ds.length : Int) ≤ most) && ds.all (rowD ws)
  | _ => false
def clauseD (d : PyData) : Bool := match d with
  | .tuple [a, b] => rowsD w_LOOK_WORDS 30 a && rowsD w_PART_WORDS 8 b
  | _ => false
/-- from the i-th item on -/
def dueFrom (i : Nat) : List PyData → PyData
  | [] => .none
  | d :: ds => if clauseD d then dueFrom (i + 1) ds else .tuple [.str "clause", .int i]
def dueD (d : PyData) : PyData := match d with
  | .tuple ds => if 1 ≤ ds.length ∧ ds.length ≤ 64 then dueFrom 0 ds else .str "form"
  | _ => .str "form"
theorem dueFrom_ok : ∀ (ds : List PyData) (i : Nat), (∀ d ∈ ds, clauseD d = true) → dueFrom i ds = .none
  | [], _, _ => rfl
  | d :: ds, i, h => by
    rw [dueFrom, if_pos (h d List.mem_cons_self)]
    exact dueFrom_ok ds (i + 1) fun e m => h e (List.mem_cons_of_mem _ m)
theorem dueFrom_okd : ∀ (ds : List PyData) (i : Nat), i + ds.length ≤ 100 → Okd 1 5000 (dueFrom i ds)
  | [], i, _ => ⟨rfl, by simp [dueFrom, PyData.depth], by show 5 ≤ 5000; decide⟩
  | d :: ds, i, h => by
    rw [List.length_cons] at h
    rw [dueFrom]
    split
    · exact dueFrom_okd ds (i + 1) (by omega)
    · have h1 : okB (.int (i : Int)) = true := by
        rw [okB]
        refine decide_eq_true ?_
        have h7 : (i : Int).natAbs < 2 ^ 7 := by omega
        exact Nat.lt_trans (PySem.Flt.log2_lt_of (by decide) h7) (by decide)
      have h2 : okB (.str "clause") = true := by decide +kernel
      refine ⟨by rw [okB, okAll, okAll, okAll, h1, h2]; rfl, by simp [PyData.depth, PyData.depthAll], ?_⟩
      show siz (.str "clause") + 2 + (1921 + 2 + 0) + 3 ≤ 5000
      have : siz (.str "clause") = 62 := by decide +kernel
      omega
theorem due_okd (d : PyData) : Okd 1 5000 (dueD d) := by
  have hf : Okd 1 5000 (.str "form") := ⟨by decide +kernel, by simp [PyData.depth], by decide +kernel⟩
  cases d with
  | tuple ds =>
    show Okd 1 5000 (if 1 ≤ ds.length ∧ ds.length ≤ 64 then dueFrom 0 ds else .str "form")
    split
    · exact dueFrom_okd ds 0 (by omega)
    · exact hf
  | _ => exact hf
/-- the size of an item -/
theorem siz_kid {d : PyData} : ∀ {ds : List PyData}, d ∈ ds → siz d ≤ siz (.tuple ds) := by
  intro ds h
  rw [siz]
  induction ds with
  | nil => cases h
  | cons x xs ih =>
    rw [sizAll]
    rcases List.mem_cons.mp h with rfl | h
    · omega
    · have := ih h
      omega
/-- data that the looks take -/
structure Fit (d : PyData) : Prop where
  ok : okB d = true
  sz : siz d ≤ sizeLine
theorem okAll_mem {d : PyData} : ∀ {ds : List PyData}, okAll ds = true → d ∈ ds → okB d = true
  | x :: xs, h, m => by
    rw [okAll, Bool.and_eq_true] at h
    rcases List.mem_cons.mp m with rfl | m
    · exact h.1
    · exact okAll_mem h.2 m
theorem Fit.kid {d : PyData} {ds : List PyData} (h : Fit (.tuple ds)) (m : d ∈ ds) : Fit d :=
  ⟨okAll_mem (show okAll ds = true from h.ok) m, Nat.le_trans (siz_kid m) h.sz⟩
theorem siz_len : ∀ ds : List PyData, ds.length ≤ siz (.tuple ds) := by
  intro ds
  rw [siz]
  induction ds with
  | nil => simp
  | cons x xs ih =>
    rw [sizAll, List.length_cons]
    omega
theorem siz_str (z : Str) : z.length ≤ siz (.str z) := by
  rw [siz]
  omega
end L2.Hx

/-! Expressions that lay data: what they come to, by its size. -/
namespace L2.Hx
open PySem PySem.Spec PyProof.Rows

/-! ### t != () -/
def rNeNil (K : PySem.W.Frag) : R2 := fun x y H Q => ∃ a b xs, x = .ref a ∧ y = .ref b ∧ SqT K H a xs ∧ SqT K H b [] ∧ Q (.bl (!xs.isEmpty)) H
theorem op_neNil {X : Cx} (hu : X.A.units + 64 < cLine) : OpR X (compareOp .NotEq) (rNeNil X.K) := by
  intro pins s σ H x y v u Q I rx ry h
  obtain ⟨a, b, xs, rfl, rfl, ha, hb, q⟩ := h
  cases rx
  cases ry
  obtain ⟨its, r1, p1, _⟩ := I.tuple ha
  obtain ⟨its2, r2, p2, _⟩ := I.tuple hb
  cases r2
  refine SeqAt.RcNeAt.tuples (e := fun _ => true) p1 p2 (by omega) (fun j h1 h2 => absurd h2 (by simp)) _ _ _ _ ⟨.bl _, H, I, rfl, ?_⟩
  have hl := r1.length
  have e : (!((List.range (min its.toArray.size ([] : List Value).toArray.size)).all (fun _ => true) && its.toArray.size == ([] : List Value).toArray.size)) = !xs.isEmpty := by
    cases xs with
    | nil =>
      cases r1
      rfl
    | cons x xs =>
      cases r1
      rfl
  rw [e]
  exact q

/-- all m of at most these depths and sizes -/
def All (k n m : Nat) (ds : List PyData) : Prop := ds.length = m ∧ ∀ d ∈ ds, Okd k n d
/-- a tuple of at most m such -/
def Tp (k n m : Nat) (d : PyData) : Prop := ∃ ds, d = .tuple ds ∧ ds.length ≤ m ∧ ∀ x ∈ ds, Okd k n x
/-- a list of at most m such, not empty -/
def Ls (k n m : Nat) (d : PyData) : Prop := ∃ ds, d = .list ds ∧ 0 < ds.length ∧ ds.length ≤ m ∧ ∀ x ∈ ds, Okd k n x
theorem Tp.okd {k n m N : Nat} {d : PyData} (h : Tp k n m d) (hN : (n + 2) * m + 3 ≤ N := by decide) : Okd (k + 1) N d := by
  obtain ⟨ds, rfl, hl, h⟩ := h
  exact Okd.tup h hl hN
theorem Ls.okd {k n m N : Nat} {d : PyData} (h : Ls k n m d) (hN : (n + 2) * m + 3 ≤ N := by decide) : Okd (k + 1) N d := by
  obtain ⟨ds, rfl, _, hl, h⟩ := h
  exact Okd.list h hl hN
theorem Tp.mono {k n m k2 n2 m2 : Nat} {d : PyData} (h : Tp k n m d) (hk : k ≤ k2 := by decide) (hn : n ≤ n2 := by decide) (hm : m ≤ m2 := by decide) : Tp k2 n2 m2 d := by
  obtain ⟨ds, rfl, hl, h⟩ := h
  exact ⟨ds, rfl, Nat.le_trans hl hm, fun x m => (h x m).mono hk hn⟩
theorem Okd.tp {k n : Nat} {ds : List PyData} (h : Okd (k + 1) n (.tuple ds)) {m : Nat} (hl : ds.length ≤ m) : Tp k n m (.tuple ds) := ⟨ds, rfl, hl, h.kids⟩

section
variable (K : PySem.W.Frag) (p l : Addr) (σ : St) (G : Hp)
/-- whatever the heap, what comes is such data; the deck may be drawn from -/
def TD (t : TE) (φ : PyData → Prop) : Prop := ∀ (G1 H : Hp) (Q : VK), Wd p l G1 H → Same G G1 → (∀ v d G2 H2, Ext p l G1 H G2 H2 → Da K G2 v d → φ d → Q v H2) → t σ H Q
def TDs (t : TA) (Φ : List PyData → Prop) : Prop := ∀ (G1 H : Hp) (Q : List V → Hp → Prop), Wd p l G1 H → Same G G1 → (∀ vs ds G2 H2, Ext p l G1 H G2 H2 → DaAll K G2 vs ds → Φ ds → Q vs H2) → t σ H Q
end
/-- a slice's end -/
def TPt (σ : St) (t : TO) : Prop := ∀ (H : Hp) (Q : Option Int → Hp → Prop), (∀ o, Q o H) → t σ H Q
section
variable {K : PySem.W.Frag} {p l : Addr} {σ : St} {G : Hp} {t ta tb : TE} {tr : TA} {φ ψ : PyData → Prop} {Φ : List PyData → Prop} {k n m : Nat}
theorem TD.imp (h : TD K p l σ G t φ) (hi : ∀ d, φ d → ψ d) : TD K p l σ G t ψ := fun G1 H Q W s k => h G1 H Q W s fun v d G2 H2 e da f => k v d G2 H2 e da (hi d f)
theorem TD.run {H : Hp} {Q : VK} (h : TD K p l σ G t φ) (W : Wd p l G H) (k : ∀ v d G2 H2, Ext p l G H G2 H2 → Da K G2 v d → φ d → Q v H2) : t σ H Q := h G H Q W (Same.refl G) k
theorem TD.asg {H : Hp} {D : Ends} {i : Nat} (h : TD K p l σ G t φ) (W : Wd p l G H) (k : ∀ v d G2 H2, Ext p l G H G2 H2 → Da K G2 v d → φ d → D.nx (σ.set i (some v)) H2) : tAsg t (gName i) D σ H := h G H _ W (Same.refl G) k
theorem TD.asgG {H : Hp} {D : Ends} {g : TG} (h : TD K p l σ G t φ) (W : Wd p l G H) (k : ∀ v d G2 H2, Ext p l G H G2 H2 → Da K G2 v d → φ d → g v σ H2 D.nx) : tAsg t g D σ H := h G H _ W (Same.refl G) k
theorem TD.ret {H : Hp} {D : Ends} (h : TD K p l σ G t φ) (W : Wd p l G H) (k : ∀ v d G2 H2, Ext p l G H G2 H2 → Da K G2 v d → φ d → D.rt v H2) : tRet t D σ H := h G H _ W (Same.refl G) k
theorem TD.flat {v : V} {d : PyData} (hd : ∀ G, Da K G v d) (hf : φ d) : TD K p l σ G (tC v) φ := fun G1 H Q W _ k => k _ _ _ _ (Ext.refl W) (hd _) hf
theorem td_str {x : Str} (h : okB (.str x) = true := by decide +kernel) (hn : siz (.str x) ≤ n := by decide +kernel) : TD K p l σ G (tC (.str x)) (Okd k n) := .flat (fun _ => .str x) ⟨h, Nat.zero_le _, hn⟩
theorem td_int {i : Int} (h : i.natAbs.log2 < 1920 := by decide) (hn : 1921 ≤ n := by decide) : TD K p l σ G (tC (.int i)) (Okd k n) := .flat (fun _ => .int i) ⟨decide_eq_true h, Nat.zero_le _, hn⟩
theorem td_non (hn : 5 ≤ n := by decide) : TD K p l σ G (tC .non) (Okd k n) := .flat (fun _ => .non) ⟨rfl, Nat.zero_le _, hn⟩
theorem td_bl {b : Bool} (hn : 5 ≤ n := by decide) : TD K p l σ G (tC (.bl b)) (Okd k n) := .flat (fun _ => .bl b) ⟨rfl, Nat.zero_le _, hn⟩
theorem td_var {i : Nat} {v : V} {d : PyData} (hi : σ[i]? = some (some v)) (hd : Da K G v d) (hf : φ d) : TD K p l σ G (tVar i) φ := fun G1 H Q W s k => ⟨v, hi, k _ _ _ _ (Ext.refl W) (hd.mono s) hf⟩
theorem tds_nil : TDs K p l σ G tNil (All k n 0) := fun G1 H Q W _ k => k _ _ _ _ (Ext.refl W) .nil ⟨rfl, fun d h => absurd h List.not_mem_nil⟩
theorem tds_cons (h : TD K p l σ G t (Okd k n)) (hr : TDs K p l σ G tr (All k n m)) : TDs K p l σ G (tCons t tr) (All k n (m + 1)) := fun G1 H Q W s k =>
  h G1 H _ W s fun v d G2 H2 e da f => hr G2 H2 _ e.w (s.trans e.sub) fun vs ds G3 H3 e3 das f3 => k _ _ _ _ (e.trans W e3) (.cons (da.mono e3.sub) das)
    ⟨by rw [List.length_cons, f3.1], fun x mx => by
      rcases List.mem_cons.mp mx with rfl | mx
      · exact f
      · exact f3.2 x mx⟩
/-- for arguments of any kinds -/
theorem tds_consP (h : TD K p l σ G t φ) (hr : TDs K p l σ G tr Φ) : TDs K p l σ G (tCons t tr) (fun ds => ∃ d r, ds = d :: r ∧ φ d ∧ Φ r) := fun G1 H Q W s k =>
  h G1 H _ W s fun v d G2 H2 e da f => hr G2 H2 _ e.w (s.trans e.sub) fun vs ds G3 H3 e3 das f3 => k _ _ _ _ (e.trans W e3) (.cons (da.mono e3.sub) das) ⟨d, ds, rfl, f, f3⟩
theorem tds_nilP : TDs K p l σ G tNil (fun ds => ds = []) := fun G1 H Q W _ k => k _ _ _ _ (Ext.refl W) .nil rfl
theorem td_tupP (h : TDs K p l σ G tr Φ) (hz : ∀ ds, Φ ds → ds.length ≤ sizeLine) : TD K p l σ G (tTup tr) (fun d => ∃ ds, d = .tuple ds ∧ Φ ds) := fun G1 H Q W s k =>
  h G1 H _ W s fun vs ds G2 H2 e da f => ⟨by rw [da.length]; exact hz ds f, fun a ha => k _ _ _ _ (e.trans W (e.w.put ha)) (.tup (SqT.of upd_same) (da.mono (e.w.put (o := .tup vs) ha).sub)) ⟨ds, rfl, f⟩⟩
theorem td_tup (h : TDs K p l σ G tr (All k n m)) (hz : m ≤ sizeLine := by decide) : TD K p l σ G (tTup tr) (Tp k n m) :=
  (td_tupP h fun ds f => by rw [f.1]; exact hz).imp fun d ⟨ds, e, f⟩ => ⟨ds, e, Nat.le_of_eq f.1, f.2⟩
theorem td_lst (h : TDs K p l σ G tr (All k n (m + 1))) (hz : m + 1 ≤ sizeLine := by decide) : TD K p l σ G (tLst tr) (Ls k n (m + 1)) := fun G1 H Q W s k =>
  h G1 H _ W s fun vs ds G2 H2 e da f => ⟨by rw [da.length, f.1]; exact hz, fun a ha => k _ _ _ _ (e.trans W (e.w.put ha)) (.lst upd_same (da.mono (e.w.put (o := .lst vs) ha).sub)) ⟨ds, rfl, by rw [f.1]; omega, Nat.le_of_eq f.1, f.2⟩⟩
theorem td_lst0 (hn : 3 ≤ n := by decide) : TD K p l σ G (tLst tNil) (Okd (k + 1) n) := fun G1 H Q W s k => ⟨Nat.zero_le _, fun a ha => k _ _ _ _ (W.put ha) (.lst upd_same .nil) ⟨rfl, by simp [PyData.depth, PyData.depthAll], hn⟩⟩
theorem td_tup0 : TD K p l σ G (tTup tNil) (Tp k n 0) := fun G1 H Q W s k => ⟨Nat.zero_le _, fun a ha => k _ _ _ _ (W.put ha) (.tup (SqT.of upd_same) .nil) ⟨[], rfl, Nat.le_refl _, fun x h => absurd h List.not_mem_nil⟩⟩
theorem td_dict0 (hn : 2 ≤ n := by decide) : TD K p l σ G tDNewK (Okd (k + 1) n) := fun G1 H Q W s k => fun a ha => k _ _ _ _ (W.put ha) (Da.dct (kvs := []) upd_same .nil) ⟨rfl, by simp [PyData.depth, PyData.depthKv], hn⟩
theorem Da.tpI {G : Hp} {v : V} {d : PyData} (h : Da K G v d) (f : Tp k n m d) : ∃ a xs ds, v = .ref a ∧ d = .tuple ds ∧ SqT K G a xs ∧ DaAll K G xs ds ∧ ds.length ≤ m ∧ ∀ x ∈ ds, Okd k n x := by
  obtain ⟨ds, rfl, h1, h2⟩ := f
  cases h with
  | tup a b => exact ⟨_, _, ds, rfl, rfl, a, b, h1, h2⟩
theorem Da.lsI {G : Hp} {v : V} {d : PyData} (h : Da K G v d) (f : Ls k n m d) : ∃ a xs ds, v = .ref a ∧ d = .list ds ∧ G a = some (.lst xs) ∧ DaAll K G xs ds ∧ 0 < ds.length ∧ ds.length ≤ m ∧ ∀ x ∈ ds, Okd k n x := by
  obtain ⟨ds, rfl, h0, h1, h2⟩ := f
  cases h with
  | lst a b => exact ⟨_, _, ds, rfl, rfl, a, b, h0, h1, h2⟩
/-- t + u, tuples -/
theorem td_catA {m2 : Nat} (ha : TD K p l σ G ta (Tp k n m)) (hb : TD K p l σ G tb (Tp k n m2)) (hz : m + m2 ≤ sizeLine := by decide) : TD K p l σ G (tOp (rCatA K) ta tb) (Tp k n (m + m2)) := fun G1 H Q W s k =>
  ha G1 H _ W s fun v d G2 H2 e da f => hb G2 H2 _ e.w (s.trans e.sub) fun u d2 G3 H3 e3 da3 f3 => by
    obtain ⟨a, xs, ds, rfl, rfl, t1, a1, l1, o1⟩ := da.tpI f
    obtain ⟨b, ys, es, rfl, rfl, t2, a2, l2, o2⟩ := da3.tpI f3
    have E := e.trans W e3
    refine ⟨a, b, xs, ys, rfl, rfl, sameT (e3.sub.trans e3.w.same) t1, sameT e3.w.same t2, by rw [a1.length, a2.length]; omega, fun hx => ?_, fun hx hy => ?_, fun hx hy c hc => ?_⟩
    · exact k _ _ _ _ E da3 ⟨es, rfl, by omega, o2⟩
    · exact k _ _ _ _ E (da.mono e3.sub) ⟨ds, rfl, by omega, o1⟩
    · have e4 := e3.w.put (o := .tup (xs ++ ys)) hc
      refine k _ _ _ _ (E.trans W e4) (.tup (SqT.of upd_same) ((a1.mono (e3.sub.trans e4.sub)).append (a2.mono e4.sub))) ⟨ds ++ es, rfl, by rw [List.length_append]; omega, fun x mx => ?_⟩
      rcases List.mem_append.mp mx with mx | mx
      · exact o1 x mx
      · exact o2 x mx
/-- xs + ys, lists -/
theorem td_cat {m2 : Nat} (ha : TD K p l σ G ta (Ls k n m)) (hb : TD K p l σ G tb (Ls k n m2)) (hz : m + m2 ≤ sizeLine := by decide) : TD K p l σ G (tOp rCat ta tb) (Ls k n (m + m2)) := fun G1 H Q W s k =>
  ha G1 H _ W s fun v d G2 H2 e da f => hb G2 H2 _ e.w (s.trans e.sub) fun u d2 G3 H3 e3 da3 f3 => by
    obtain ⟨a, xs, ds, rfl, rfl, t1, a1, z1, l1, o1⟩ := da.lsI f
    obtain ⟨b, ys, es, rfl, rfl, t2, a2, z2, l2, o2⟩ := da3.lsI f3
    have E := e.trans W e3
    refine ⟨a, b, xs, ys, rfl, rfl, (e3.sub.trans e3.w.same) _ _ t1, e3.w.same _ _ t2, by rw [a1.length, a2.length]; omega, fun c hc => ?_⟩
    have e4 := e3.w.put (o := .lst (xs ++ ys)) hc
    refine k _ _ _ _ (E.trans W e4) (.lst upd_same ((a1.mono (e3.sub.trans e4.sub)).append (a2.mono e4.sub))) ⟨ds ++ es, rfl, by rw [List.length_append]; omega, by rw [List.length_append]; omega, fun x mx => ?_⟩
    rcases List.mem_append.mp mx with mx | mx
    · exact o1 x mx
    · exact o2 x mx
/-- t[lo:hi] -/
theorem td_sl {tl th : TO} (ha : TD K p l σ G ta (Tp k n m)) (hl : TPt σ tl) (hh : TPt σ th) : TD K p l σ G (tSl (rSlA K) ta tl th) (Tp k n m) := fun G1 H Q W s k =>
  ha G1 H _ W s fun v d G2 H2 e da f => hl H2 _ fun lo => hh H2 _ fun hi => by
    obtain ⟨a, xs, ds, rfl, rfl, t1, a1, l1, o1⟩ := da.tpI f
    refine ⟨a, xs, rfl, sameT e.w.same t1, fun _ => k _ _ _ _ e da ⟨ds, rfl, l1, o1⟩, fun _ c hc => ?_⟩
    have e4 := e.w.put (o := .tup (cutV xs lo hi)) hc
    refine k _ _ _ _ (e.trans W e4) (.tup (SqT.of upd_same) ((((a1.drop _).take _).mono e4.sub))) ⟨_, rfl, ?_, fun x mx => o1 x (List.mem_of_mem_drop (List.mem_of_mem_take mx))⟩
    rw [List.length_take, List.length_drop]
    omega
theorem tp_none : TPt σ tNoPart := fun H Q h => h none
theorem tp_int {i : Int} : TPt σ (tPart (tC (.int i))) := fun H Q h => ⟨i, rfl, h _⟩
theorem tp_var {i : Nat} {z : Int} (hi : σ[i]? = some (some (.int z))) : TPt σ (tPart (tVar i)) := fun H Q h => ⟨_, hi, _, rfl, h _⟩
theorem tp_add {i : Nat} {z c : Int} (hi : σ[i]? = some (some (.int z))) : TPt σ (tPart (tOp (rI0 fun i j => .int (i + j)) (tVar i) (tC (.int c)))) := fun H Q h => ⟨_, hi, _, _, rfl, rfl, _, rfl, h _⟩
/-- (x,) * c -/
theorem td_rep {c : Int} {N : Nat} (ha : TD K p l σ G ta (fun d => ∃ x, d = .tuple [x] ∧ Okd k n x)) (h2 : 2 ≤ c := by decide) (h3 : c ≤ 1000 := by decide) (hN : c.toNat ≤ N := by decide) : TD K p l σ G (tOp (rRepT K) ta (tC (.int c))) (Tp k n N) := fun G1 H Q W s k =>
  ha G1 H _ W s fun v d G2 H2 e da f => by
    obtain ⟨x, rfl, o1⟩ := f
    cases da with
    | @tup a xs _ t1 a1 =>
      cases a1 with
      | cons b1 b2 =>
        cases b2
        rename_i y
        refine ⟨a, c, [y], rfl, rfl, sameT e.w.same t1, by simp, h2, h3, by simp, fun q hq => ?_⟩
        have e4 := e.w.put (o := .tup (List.replicate c.toNat [y]).flatten) hq
        refine k _ _ _ _ (e.trans W e4) (.tup (SqT.of upd_same) ((DaAll.flat (.cons b1 .nil) c.toNat).mono e4.sub)) ⟨_, rfl, ?_, fun z mz => ?_⟩
        · rw [PyProof.Rows.lm_len_rep_flat]
          simpa using hN
        · rw [List.mem_flatten] at mz
          obtain ⟨r, hr, mz⟩ := mz
          rw [(List.mem_replicate.mp hr).2] at mz
          rw [List.mem_singleton.mp mz]
          exact o1
/-- list(t), t a tuple -/
theorem td_list_of (ha : TD K p l σ G ta (Tp k n m)) {N : Nat} (hN : (n + 2) * m + 3 ≤ N := by decide) :
    TD K p l σ G (tCB (fun xs H Q => ∃ p ys, xs = [.ref p] ∧ (SqL K H p ys ∨ SqT K H p ys) ∧ ∀ l, H l = none → Q (.ref l) (upd H l (.lst ys))) (tCons ta tNil)) (Okd (k + 1) N) := fun G1 H Q W s k =>
  ha G1 H _ W s fun v d G2 H2 e da f => by
    obtain ⟨a, xs, ds, rfl, rfl, t1, a1, l1, o1⟩ := da.tpI f
    refine ⟨a, xs, rfl, .inr (sameT e.w.same t1), fun q hq => ?_⟩
    have e4 := e.w.put (o := .lst xs) hq
    exact k _ _ _ _ (e.trans W e4) (.lst upd_same (a1.mono e4.sub)) (Okd.list o1 l1 hN)
/-- tuple(xs), xs a list -/
theorem td_tuple_of {N : Nat} (ha : TD K p l σ G ta (fun d => ∃ ds, d = .list ds ∧ ds.length ≤ m ∧ ∀ x ∈ ds, Okd k n x)) :
    TD K p l σ G (tCB (fun xs H Q => ∃ p ys, xs = [.ref p] ∧ ((SqL K H p ys ∧ ∀ l, H l = none → Q (.ref l) (upd H l (.tup ys))) ∨ (SqT K H p ys ∧ Q (.ref p) H))) (tCons ta tNil)) (Tp k n m) := fun G1 H Q W s k =>
  ha G1 H _ W s fun v d G2 H2 e da f => by
    obtain ⟨ds, rfl, l1, o1⟩ := f
    cases da with
    | @lst a xs _ t1 a1 =>
      refine ⟨a, xs, rfl, .inl ⟨SqL.of (e.w.same _ _ t1), fun q hq => ?_⟩⟩
      have e4 := e.w.put (o := .tup xs) hq
      exact k _ _ _ _ (e.trans W e4) (.tup (SqT.of upd_same) (a1.mono e4.sub)) ⟨ds, rfl, l1, o1⟩
end
/-! ### comprehensions over a range -/
section
variable (K : PySem.W.Frag) (p l : Addr) (σ : St) (G : Hp)
/-- a range of N turns, N as told; the deck may be drawn from -/
def TW (wi : TI) (ν : Nat → Prop) : Prop := ∀ (G1 H : Hp) (R : It → Hp → Prop), Wd p l G1 H → Same G G1 → (∀ N G2 H2, ν N → Ext p l G1 H G2 H2 → R (Itr 0 N) H2) → wi σ H R
end
/-- a list whose length and items are as told -/
def LsN (ν : Nat → Prop) (φ : PyData → Prop) (d : PyData) : Prop := ∃ ds, d = .list ds ∧ ν ds.length ∧ ∀ x ∈ ds, φ x
section
variable {K : PySem.W.Frag} {p l : Addr} {σ : St} {G : Hp}
theorem set_none {j : Nat} {v : Option V} (σ : St) : ((σ.set j none).set j v).set j none = σ.set j none := by
  rw [List.set_set, List.set_set]
theorem tw_var {i : Nat} {z : Int} (hi : σ[i]? = some (some (.int z))) (h0 : 0 ≤ z) (h1 : z < 1000000) : TW p l σ G (iRng1 (tCons (tVar i) tNil)) (fun N => (N : Int) = z) := fun G1 H R W s k =>
  ⟨_, hi, z, rfl, by omega, by omega, k _ _ _ (by omega) (Ext.refl W)⟩
theorem tw_int {z : Int} (h0 : 0 ≤ z) (h1 : z < 1000000) : TW p l σ G (iRng1 (tCons (tC (.int z)) tNil)) (fun N => (N : Int) = z) := fun G1 H R W s k =>
  ⟨z, rfl, by omega, by omega, k _ _ _ (by omega) (Ext.refl W)⟩
theorem td_lc {wi : TI} {te : TE} {j M : Nat} {ν : Nat → Prop} {φ : PyData → Prop} (hw : TW p l σ G wi ν) (hM : ∀ N, ν N → N ≤ M) (hM2 : M < sizeLine) (he : ∀ i : Nat, TD K p l ((σ.set j none).set j (some (.int (0 + (i : Int))))) G te φ) :
    TD K p l σ G (tLc wi (gName j) tYes te [j]) (LsN ν φ) := fun G1 H Q W s k =>
  hw G1 H _ W s fun N G2 H2 hN e => fun D hD => by
    have nDp := e.w.np hD
    have nDl := e.w.nl hD
    have E1 := e.w.tmp (o := .lst []) hD
    refine lc_range (lo := 0) (n := N) (fun i H3 => ∃ G3 xs ds, Wd p l G3 H3 ∧ Same G2 G3 ∧ G3 D = none ∧ H3 D = some (.lst xs) ∧ DaAll K G3 xs ds ∧ ds.length = i ∧ (∀ x ∈ ds, φ x) ∧
        (∀ b o, b ≠ p → b ≠ l → b ≠ D → H2 b = some o → H3 b = some o) ∧ (∀ b o, H2 b = some o → G2 b = none → G3 b = none))
      ⟨G2, [], [], E1.w, Same.refl _, e.w.same.free hD, upd_same, .nil, rfl, fun x m => absurd m List.not_mem_nil, fun b o n1 n2 n3 q => by rw [upd_ne n3]; exact q, fun b o _ g => g⟩ ?_ ?_
    · rintro i H3 hi ⟨G3, xs, ds, w3, s3, gD, hD3, da3, l3, f3, k3, n3⟩
      refine ⟨set_none σ, ?_⟩
      show te _ _ _
      refine he i G3 H3 _ w3 ((s.trans e.sub).trans s3) fun v d G4 H4 e4 da4 f4 => ?_
      have hD4 : H4 D = some (.lst xs) := e4.keep _ _ nDp nDl hD3
      have gD4 : G4 D = none := e4.new _ _ hD3 gD
      refine ⟨xs, hD4, by rw [da3.length, l3]; exact Nat.lt_of_lt_of_le hi (Nat.le_trans (hM N hN) (Nat.le_of_lt hM2)), G4, xs ++ [v], ds ++ [d], e4.w.own nDp nDl gD4, s3.trans e4.sub, gD4, upd_same, (da3.mono e4.sub).append (.cons da4 .nil),
        by rw [List.length_append, l3]; rfl, fun x m => ?_, fun b o n1 n2 n4 q => ?_, fun b o q g => ?_⟩
      · rcases List.mem_append.mp m with m | m
        · exact f3 x m
        · rw [List.mem_singleton.mp m]
          exact f4
      · rw [upd_ne n4]
        exact e4.keep _ _ n1 n2 (k3 b o n1 n2 n4 q)
      · have g3 := n3 b o q g
        by_cases b1 : b = p
        · subst b1
          exact e4.w.gp
        · by_cases b2 : b = l
          · subst b2
            exact e4.w.gl
          · exact e4.new b o (k3 b o b1 b2 (ne_of_none q hD) q) g3
    · rintro H3 ⟨G3, xs, ds, w3, s3, gD, hD3, da3, l3, f3, k3, n3⟩
      obtain ⟨w4, s4⟩ := w3.hold nDp nDl gD hD3
      have E2 : Ext p l G2 H2 (upd G3 D (.lst xs)) H3 := ⟨w4, s3.trans s4, fun b o n1 n2 q => k3 b o n1 n2 (ne_of_none q hD) q, fun b o q g => by
        rw [upd_ne (ne_of_none q hD)]
        exact n3 b o q g⟩
      exact k _ _ _ _ (e.trans W E2) (.lst upd_same (da3.mono s4)) ⟨ds, rfl, by rw [l3]; exact hN, f3⟩
/-- tuple(xs), xs a list as told -/
theorem td_tupleN {ta : TE} {ν : Nat → Prop} {φ : PyData → Prop} (ha : TD K p l σ G ta (LsN ν φ)) :
    TD K p l σ G (tCB (fun xs H Q => ∃ p ys, xs = [.ref p] ∧ ((SqL K H p ys ∧ ∀ l, H l = none → Q (.ref l) (upd H l (.tup ys))) ∨ (SqT K H p ys ∧ Q (.ref p) H))) (tCons ta tNil)) (fun d => ∃ ds, d = .tuple ds ∧ ν ds.length ∧ ∀ x ∈ ds, φ x) := fun G1 H Q W s k =>
  ha G1 H _ W s fun v d G2 H2 e da f => by
    obtain ⟨ds, rfl, l1, o1⟩ := f
    cases da with
    | @lst a xs _ t1 a1 =>
      refine ⟨a, xs, rfl, .inl ⟨SqL.of (e.w.same _ _ t1), fun q hq => ?_⟩⟩
      have e4 := e.w.put (o := .tup xs) hq
      exact k _ _ _ _ (e.trans W e4) (.tup (SqT.of upd_same) (a1.mono e4.sub)) ⟨ds, rfl, l1, o1⟩
theorem td_tupO {tr : TA} {k n m k2 N : Nat} (h : TDs K p l σ G tr (All k n m)) (hN : (n + 2) * m + 3 ≤ N := by decide) (hk : k + 1 ≤ k2 := by decide) (hz : m ≤ sizeLine := by decide) : TD K p l σ G (tTup tr) (Okd k2 N) :=
  (td_tup h hz).imp fun d f => (f.okd hN).mono hk (Nat.le_refl _)
theorem td_tup0O {k n : Nat} (hk : 1 ≤ k := by decide) (hn : 3 ≤ n := by decide) : TD K p l σ G (tTup tNil) (Okd k n) := td_tup0.imp fun d (f : Tp 0 0 0 d) => (f.okd (N := 3)).mono hk hn
theorem td_tpO {t : TE} {k n m k2 N : Nat} (h : TD K p l σ G t (Tp k n m)) (hN : (n + 2) * m + 3 ≤ N := by decide) (hk : k + 1 ≤ k2 := by decide) : TD K p l σ G t (Okd k2 N) := h.imp fun d f => (f.okd hN).mono hk (Nat.le_refl _)
end
end L2.Hx

/-! list(zip(xs, ys)), two lists of one length. -/
namespace L2.Zx
open PySem PySem.Spec PyProof.Rows
abbrev ZipF (h : Heap) (z TI TO a : Addr) (f : Bool) : Prop :=
  h.get? z = some { cls := .type "zip", dict := none, data := .fields #[rawInt a, .bool f, .bool false, .ref TI, .ref TO], slots := #[] }
section
variable {prog : Program} {w : World} {A : Around} {E : Value → Shared → Prop} {s : Shared}
theorem owned_out {z TI TO a : Addr} {f : Bool} {oa : Obj} {Q : Bool → Shared → Prop} (hz : ZipF s.heap z TI TO a f) (ha : s.heap.get? a = some oa)
    (hQ : ∀ h₃, ZipF h₃ z TI TO a true → Heap.SameBut z s.heap h₃ → Q false { s with heap := h₃ }) : wpAny (model prog w) A (Builtin.SmallTypes.ownedTupleIsFree (.ref z)) Q E s := by
  unfold Builtin.SmallTypes.ownedTupleIsFree
  refine wpAny_bind (wpAny_field hz rfl (x := rawInt a) rfl ?_)
  show wpAny _ _ (loadIfAlive ((a : Int).toNat) >>= _) _ _ _
  rw [Int.toNat_natCast]
  refine wpAny_bind (PySem.W.kdx_alive ha ?_)
  simp only [Option.isNone_some, Bool.false_eq_true, if_false]
  refine wpAny_bind (wpAny_field hz rfl (x := .bool f) rfl ?_)
  cases f with
  | true =>
    rw [if_neg (show ¬ ((Value.bool true != Value.bool true) = true) from Bool.false_ne_true)]
    exact wpAny_pure (hQ s.heap hz (Heap.SameBut.refl _ _))
  | false =>
    rw [if_pos (show (Value.bool false != Value.bool true) = true from rfl)]
    refine wpAny_bind (wpAny_setField_rec hz (by simp) fun h₃ hz₃ hs₃ => ?_)
    exact wpAny_pure (hQ h₃ hz₃ hs₃)
theorem next_out {z TI TO i1 i2 l1 l2 a : Addr} {f : Bool} {oa : Obj} {k : Nat} {xs ys : Array Value} {x y : Value} {Q : Option Value → Shared → Prop} (D : ZipApart z TI TO i1 i2 l1 l2)
    (hz : ZipF s.heap z TI TO a f) (ha : s.heap.get? a = some oa) (hTI : IsPair s.heap TI (.ref i1) (.ref i2))
    (h1 : s.heap.IsListIter i1 l1 k) (h2 : s.heap.IsListIter i2 l2 k) (hl1 : s.heap.IsList l1 xs) (hl2 : s.heap.IsList l2 ys) (hx : xs[k]? = some x) (hy : ys[k]? = some y)
    (hQ : ∀ h', ZipF h' z TI TO a true → h'.IsListIter i1 l1 (k + 1) → h'.IsListIter i2 l2 (k + 1) → IsPair h' s.heap.objs.size x y → h'.objs.size = s.heap.objs.size + 1 →
      (∀ c o, c ≠ z → c ≠ i1 → c ≠ i2 → s.heap.get? c = some o → h'.get? c = some o) → Q (some (.ref s.heap.objs.size)) { s with heap := h' }) :
    wpAny (model prog w) A (pyNext (.ref z)) Q E s := by
  have hT : s.TypeIs (.ref z) "zip" := ⟨_, hz, rfl⟩
  unfold pyNext
  refine wpAny_bind (wpAny_attempt (wpAny_callSpecial?_slot (name := Str.ofString "__next__") hT F.slot_zip_next
    (wpAny_call_entry F.slot_zip_next hT F.entry_zip_next ?_ (F.args_zip_next_1 _))))
  show wpAny _ _ (field (.ref z) 2 >>= _) _ _ _
  refine wpAny_bind (wpAny_field hz rfl (x := .bool false) rfl ?_)
  show wpAny _ _ (field (.ref z) 3 >>= _) _ _ _
  refine wpAny_bind (wpAny_field hz rfl (x := .ref TI) rfl ?_)
  refine wpAny_bind (wpAny_seqItems hTI rfl ?_)
  show wpAny _ _ (Builtin.SmallTypes.ownedTupleIsFree (.ref z) >>= _) _ _ _
  refine wpAny_bind (owned_out hz ha fun h₃ hz₃ hs₃ => ?_)
  simp only [Bool.false_eq_true, if_false]
  rw [← Array.forIn_toList]
  simp only [List.forIn_cons, List.forIn_nil]
  refine wpAny_bind ?_
  refine wpAny_bind ?_
  refine wpAny_bind (wpAny_holding ?_)
  show wpAny _ _ (Builtin.SmallTypes.nextOf (.ref i1) >>= _) _ _ _
  refine wpAny_bind (wpAny_nextOf_list_item (h1.extBut hs₃.extBut D.i1z) (hl1.extBut hs₃.extBut D.l1z) hx fun h₄ h1₄ hs₄ => wpAny_pure ?_)
  refine wpAny_pure ?_
  dsimp only
  refine wpAny_bind ?_
  refine wpAny_bind (wpAny_holding ?_)
  show wpAny _ _ (Builtin.SmallTypes.nextOf (.ref i2) >>= _) _ _ _
  refine wpAny_bind (wpAny_nextOf_list_item ((h2.extBut hs₃.extBut D.i2z).extBut hs₄.extBut D.i12.symm) ((hl2.extBut hs₃.extBut D.l2z).extBut hs₄.extBut D.l2i1) hy fun h₅ h2₅ hs₅ => wpAny_pure ?_)
  refine wpAny_pure ?_
  dsimp only
  refine wpAny_pure ?_
  dsimp only
  refine wpAny_bind (wpAny_newTuple (hsz := by show 2 ≤ sizeLine; decide) ?_)
  have up : ∀ c o, c ≠ z → c ≠ i1 → c ≠ i2 → s.heap.get? c = some o → h₅.get? c = some o := fun c o c1 c2 c3 e => hs₅.extBut _ _ c3 (hs₄.extBut _ _ c2 (hs₃.extBut _ _ c1 e))
  have hsz : h₅.objs.size = s.heap.objs.size := by rw [hs₅.1, hs₄.1, hs₃.1]
  refine wpAny_pure ⟨_, rfl, wpAny_pure ?_⟩
  show Q (some (.ref h₅.objs.size)) _
  have hz₅ : ZipF h₅ z TI TO a true := hs₅.extBut _ _ D.i2z.symm (hs₄.extBut _ _ D.i1z.symm hz₃)
  have h1₅ : h₅.IsListIter i1 l1 (k + 1) := h1₄.extBut hs₅.extBut D.i12
  have hT₆ : IsPair (h₅.push { cls := .type "tuple", data := .seq #[x, y] }) h₅.objs.size x y := Heap.get?_push_size _ rfl
  rw [hsz] at hT₆ ⊢
  refine hQ _ (Heap.get?_push_of_some _ hz₅) (h1₅.at fun o e => Heap.get?_push_of_some _ e) (h2₅.at fun o e => Heap.get?_push_of_some _ e) hT₆ (by rw [Heap.size_push, hsz]) fun c o c1 c2 c3 e => Heap.get?_push_of_some _ (up c o c1 c2 c3 e)
theorem end_out {z TI TO i1 i2 l1 l2 a : Addr} {f : Bool} {oa : Obj} {k : Nat} {xs : Array Value} {Q : Option Value → Shared → Prop} (hh : A.handled = none) (D : ZipApart z TI TO i1 i2 l1 l2)
    (hz : ZipF s.heap z TI TO a f) (ha : s.heap.get? a = some oa) (hTI : IsPair s.heap TI (.ref i1) (.ref i2))
    (h1 : s.heap.IsListIter i1 l1 k) (hl1 : s.heap.IsList l1 xs) (hx : xs[k]? = none)
    (hQ : ∀ h', (∀ c o, c ≠ z → c ≠ i1 → s.heap.get? c = some o → h'.get? c = some o) → Q none { s with heap := h' }) :
    wpAny (model prog w) A (pyNext (.ref z)) Q E s := by
  have hT : s.TypeIs (.ref z) "zip" := ⟨_, hz, rfl⟩
  unfold pyNext
  refine wpAny_bind (wpAny_attempt (wpAny_callSpecial?_slot (name := Str.ofString "__next__") hT F.slot_zip_next
    (wpAny_call_entry F.slot_zip_next hT F.entry_zip_next ?_ (F.args_zip_next_1 _))))
  show wpAny _ _ (field (.ref z) 2 >>= _) _ _ _
  refine wpAny_bind (wpAny_field hz rfl (x := .bool false) rfl ?_)
  show wpAny _ _ (field (.ref z) 3 >>= _) _ _ _
  refine wpAny_bind (wpAny_field hz rfl (x := .ref TI) rfl ?_)
  refine wpAny_bind (wpAny_seqItems hTI rfl ?_)
  show wpAny _ _ (Builtin.SmallTypes.ownedTupleIsFree (.ref z) >>= _) _ _ _
  refine wpAny_bind (owned_out hz ha fun h₃ hz₃ hs₃ => ?_)
  simp only [Bool.false_eq_true, if_false]
  rw [← Array.forIn_toList]
  simp only [List.forIn_cons, List.forIn_nil]
  refine wpAny_bind ?_
  refine wpAny_bind ?_
  refine wpAny_bind (wpAny_holding ?_)
  show wpAny _ _ (Builtin.SmallTypes.nextOf (.ref i1) >>= _) _ _ _
  refine wpAny_bind (wpAny_nextOf_list_end hh (h1.extBut hs₃.extBut D.i1z) (hl1.extBut hs₃.extBut D.l1z) hx fun h₄ e hs₄ he => ?_)
  obtain ⟨oe, hoe, hce⟩ := he
  refine wpAny_bind (wpAny_isInstance (T := "StopIteration") (b := true) ⟨oe, hoe, hce⟩ isSubtype_stop ?_)
  exact wpAny_pure (hQ _ fun c o c1 c2 e => hs₄ _ _ c2 (hs₃.extBut _ _ c1 e))
/-- the zip at its k-th pair; S is the list that is made, as the tuples handed out -/
structure St (h : Heap) (z TI TO i1 i2 l1 l2 S : Addr) (xs ys : Array Value) (k : Nat) : Prop where
  own : IsZip h z TI TO .none ∨ ∃ a f oa, ZipF h z TI TO a f ∧ h.get? a = some oa ∧ S < a
  ti : IsPair h TI (.ref i1) (.ref i2)
  to : ∃ a b, IsPair h TO a b
  h1 : h.IsListIter i1 l1 k
  h2 : h.IsListIter i2 l2 k
  hl1 : h.IsList l1 xs
  hl2 : h.IsList l2 ys
/-- all of a zip below S -/
structure Low (z TI TO i1 i2 l1 l2 S : Addr) : Prop where
  z : z < S
  ti : TI < S
  to : TO < S
  i1 : i1 < S
  i2 : i2 < S
  l1 : l1 < S
  l2 : l2 < S
theorem St.keep {h h' : Heap} {z TI TO i1 i2 l1 l2 S : Addr} {xs ys : Array Value} {k : Nat} (L : Low z TI TO i1 i2 l1 l2 S) (x : St h z TI TO i1 i2 l1 l2 S xs ys k) (hk : ∀ b o, b ≠ S → h.get? b = some o → h'.get? b = some o) : St h' z TI TO i1 i2 l1 l2 S xs ys k := by
  have n : ∀ {b : Addr}, b < S → b ≠ S := fun h => Nat.ne_of_lt h
  refine ⟨?_, hk _ _ (n L.ti) x.ti, ?_, x.h1.at fun o e => hk _ o (n L.i1) e, x.h2.at fun o e => hk _ o (n L.i2) e, x.hl1.at fun o e => hk _ o (n L.l1) e, x.hl2.at fun o e => hk _ o (n L.l2) e⟩
  · rcases x.own with e | ⟨a, f, oa, e, ea, lt⟩
    · exact .inl (hk _ _ (n L.z) e)
    · exact .inr ⟨a, f, oa, hk _ _ (n L.z) e, hk _ _ (Nat.ne_of_gt lt) ea, lt⟩
  · obtain ⟨a, b, e⟩ := x.to
    exact ⟨a, b, hk _ _ (n L.to) e⟩
theorem item {z TI TO i1 i2 l1 l2 S : Addr} {k : Nat} {xs ys : Array Value} {x y : Value} {Q : Option Value → Shared → Prop} (D : ZipApart z TI TO i1 i2 l1 l2) (L : Low z TI TO i1 i2 l1 l2 S) (hst : St s.heap z TI TO i1 i2 l1 l2 S xs ys k) (hS : S < s.heap.objs.size)
    (hx : xs[k]? = some x) (hy : ys[k]? = some y)
    (hQ : ∀ h', St h' z TI TO i1 i2 l1 l2 S xs ys (k + 1) → IsPair h' s.heap.objs.size x y → (∀ b o, S ≤ b → s.heap.get? b = some o → h'.get? b = some o) → (∀ b o, b ≠ z → b ≠ TO → b ≠ i1 → b ≠ i2 → s.heap.get? b = some o → h'.get? b = some o) → Q (some (.ref s.heap.objs.size)) { s with heap := h' }) :
    wpAny (model prog w) A (pyNext (.ref z)) Q E s := by
  have g : ∀ {b c : Addr}, b < S → S ≤ c → c ≠ b := fun h1 h2 => Nat.ne_of_gt (Nat.lt_of_lt_of_le h1 h2)
  rcases hst.own with e | ⟨a, f, oa, e, ea, lt⟩
  · obtain ⟨a, b, eo⟩ := hst.to
    refine wpAny_pyNext_zip_item D e hst.ti eo hst.h1 hst.h2 hst.hl1 hst.hl2 hx hy fun h' z1 z2 z3 z4 z5 z6 z7 => ?_
    have up : ∀ b o, b ≠ z → b ≠ TO → b ≠ i1 → b ≠ i2 → s.heap.get? b = some o → h'.get? b = some o := fun b o c1 c2 c3 c4 e => z7 b o c1 c2 c3 c4 e
    exact hQ h' ⟨.inr ⟨_, false, _, z1, z5, hS⟩, up _ _ D.TIz D.TITO D.TIi1 D.TIi2 hst.ti, ⟨_, _, z2⟩, z3, z4, hst.hl1.at fun o e => up _ o D.l1z D.l1TO D.l1i1 D.l1i2 e, hst.hl2.at fun o e => up _ o D.l2z D.l2TO D.l2i1 D.l2i2 e⟩ z5 (fun b o lb e => up b o (g L.z lb) (g L.to lb) (g L.i1 lb) (g L.i2 lb) e) up
  · refine next_out D e ea hst.ti hst.h1 hst.h2 hst.hl1 hst.hl2 hx hy fun h' z1 z3 z4 z5 z6 z7 => ?_
    obtain ⟨b1, b2, eo⟩ := hst.to
    have up : ∀ b o, b ≠ z → b ≠ TO → b ≠ i1 → b ≠ i2 → s.heap.get? b = some o → h'.get? b = some o := fun b o c1 _ c3 c4 e => z7 b o c1 c3 c4 e
    exact hQ h' ⟨.inr ⟨_, true, _, z1, z7 _ _ (g L.z (Nat.le_of_lt lt)) (g L.i1 (Nat.le_of_lt lt)) (g L.i2 (Nat.le_of_lt lt)) ea, lt⟩, z7 _ _ D.TIz D.TIi1 D.TIi2 hst.ti, ⟨_, _, z7 _ _ D.TOz D.TOi1 D.TOi2 eo⟩, z3, z4, hst.hl1.at fun o e => z7 _ o D.l1z D.l1i1 D.l1i2 e, hst.hl2.at fun o e => z7 _ o D.l2z D.l2i1 D.l2i2 e⟩ z5 (fun b o lb e => up b o (g L.z lb) (g L.to lb) (g L.i1 lb) (g L.i2 lb) e) up
theorem done {z TI TO i1 i2 l1 l2 S : Addr} {k : Nat} {xs ys : Array Value} {Q : Option Value → Shared → Prop} (hh : A.handled = none) (D : ZipApart z TI TO i1 i2 l1 l2) (hst : St s.heap z TI TO i1 i2 l1 l2 S xs ys k) (hx : xs[k]? = none)
    (hQ : ∀ h', (∀ b o, b ≠ z → b ≠ TO → b ≠ i1 → b ≠ i2 → s.heap.get? b = some o → h'.get? b = some o) → Q none { s with heap := h' }) : wpAny (model prog w) A (pyNext (.ref z)) Q E s := by
  rcases hst.own with e | ⟨a, f, oa, e, ea, lt⟩
  · obtain ⟨a, b, eo⟩ := hst.to
    exact wpAny_pyNext_zip_end hh D e hst.ti eo hst.h1 hst.h2 hst.hl1 hst.hl2 (.inl hx) fun h' k => hQ h' k
  · exact end_out hh D e ea hst.ti hst.h1 hst.hl1 hx fun h' k => hQ h' fun b o c1 _ c3 _ e => k b o c1 c3 e
/-- the tuples made -/
structure Made (xs ys : Array Value) (lo : Addr) (h : Heap) (as : List Addr) : Prop where
  rise : as.Pairwise (· < ·)
  above : ∀ a ∈ as, lo < a
  pairs : ∀ (j : Nat) (a : Addr), as[j]? = some a → ∃ x y, xs[j]? = some x ∧ ys[j]? = some y ∧ IsPair h a x y
theorem Made.there {xs ys : Array Value} {lo : Addr} {h : Heap} {as : List Addr} (g : Made xs ys lo h as) {a : Addr} (ha : a ∈ as) : a < h.objs.size := by
  obtain ⟨j, hj⟩ := List.mem_iff_getElem?.mp ha
  obtain ⟨_, _, _, _, e⟩ := g.pairs j a hj
  exact Heap.lt_size e
theorem loop {R : Result → Shared → Prop} {z TI TO i1 i2 l1 l2 S : Addr} {xs ys : Array Value} {n : Nat} (hh : A.handled = none) (D : ZipApart z TI TO i1 i2 l1 l2) (L : Low z TI TO i1 i2 l1 l2 S) (n1 : xs.size = n) (n2 : ys.size = n) (hn : n ≤ sizeLine) (res : Value) {h₁ : Heap}
    (hR : ∀ h' tk acc c as, (∀ b o, b ≠ S → b ≠ z → b ≠ TO → b ≠ i1 → b ≠ i2 → h₁.get? b = some o → h'.get? b = some o) → h'.get? S = some { cls := .type "list", dict := none, data := .seq acc c, slots := #[] } → as.length = n → Made xs ys S h' as →
      acc.toList = as.map Value.ref → R (.ok (.ret res)) { s with heap := h', toks := tk }) :
    ∀ (k i : Nat) (h : Heap) (tk c : Nat) (acc : Array Value) (as : List Addr), n - i = k → i ≤ n → St h z TI TO i1 i2 l1 l2 S xs ys i → (∀ b o, b ≠ S → b ≠ z → b ≠ TO → b ≠ i1 → b ≠ i2 → h₁.get? b = some o → h.get? b = some o) →
      h.get? S = some { cls := .type "list", dict := none, data := .seq acc c, slots := #[] } → acc.toList = as.map Value.ref → as.length = i → Made xs ys S h as →
      codeAny (model prog w) A (.builtin "list.extend.loop" ⟨[.ref S, .ref z, res], []⟩) R { s with heap := h, toks := tk } := by
  have nz : S ≠ z := Nat.ne_of_gt L.z
  have nto : S ≠ TO := Nat.ne_of_gt L.to
  have ni1 : S ≠ i1 := Nat.ne_of_gt L.i1
  have ni2 : S ≠ i2 := Nat.ne_of_gt L.i2
  intro k
  induction k with
  | zero =>
    intro i h tk c acc as hk hi hst hkeep hS hacc hal hG
    have hin : i = n := by omega
    refine codeAny_builtin PySem.F.entry_extend_loop ?_
    rw [Around.under_plainId PySem.F.plain_extend_loop _]
    show wpAny _ A.in1 (pyNext (.ref z) >>= _) _ _ _
    refine wpAny_bind (done (s := { s with heap := h, toks := tk }) (A := A.in1) hh D hst (Array.getElem?_eq_none (by omega)) fun h' he => ?_)
    refine wpAny_pure (hR h' tk acc c as (fun b o h0 h1 h2 h3 h4 e => he b o h1 h2 h3 h4 (hkeep b o h0 h1 h2 h3 h4 e)) (he S _ nz nto ni1 ni2 hS) (by omega) ⟨hG.rise, hG.above, fun j a hj => ?_⟩ hacc)
    obtain ⟨x, y, e1, e2, e3⟩ := hG.pairs j a hj
    have la := hG.above a (List.mem_of_getElem? hj)
    have g : ∀ {b : Addr}, b < S → a ≠ b := fun h => Nat.ne_of_gt (Nat.lt_trans h la)
    exact ⟨x, y, e1, e2, he a _ (g L.z) (g L.to) (g L.i1) (g L.i2) e3⟩
  | succ k ih =>
    intro i h tk c acc as hk hi hst hkeep hS hacc hal hG
    have hlt : i < n := by omega
    obtain ⟨x, hx⟩ : ∃ p, xs[i]? = some p := ⟨xs[i], Array.getElem?_eq_getElem (by omega)⟩
    obtain ⟨y, hy⟩ : ∃ p, ys[i]? = some p := ⟨ys[i], Array.getElem?_eq_getElem (by omega)⟩
    have hsz : acc.size = i := by rw [← Array.length_toList, hacc, List.length_map, hal]
    have hSl : S < h.objs.size := Heap.lt_size hS
    refine codeAny_builtin PySem.F.entry_extend_loop ?_
    rw [Around.under_plainId PySem.F.plain_extend_loop _]
    show wpAny _ A.in1 (pyNext (.ref z) >>= _) _ _ _
    refine wpAny_bind (item (s := { s with heap := h, toks := tk }) (S := S) D L hst hSl hx hy fun h' hst' ht hge hkp => ?_)
    dsimp only at ht hge hkp ⊢
    have hS' := hge S _ (Nat.le_refl _) hS
    have up : ∀ b o, b ≠ S → h'.get? b = some o → (h'.update S (Obj.mapSeq (·.push (Value.ref h.objs.size)))).get? b = some o := fun b o hb e => (Heap.get?_update_other _ _ (Ne.symm hb)).trans e
    show wpAny _ A.in1 (updateSeq S (·.push (Value.ref h.objs.size)) >>= _) _ _ _
    refine wpAny_bind ?_
    refine wpAny_updateSeq hS' rfl (wpAny_pure ⟨plainId_quiet PySem.F.plain_extend_loop _, ih (i + 1) _ tk _ (acc.push (Value.ref h.objs.size)) (as ++ [h.objs.size]) (by omega) hlt (hst'.keep L up)
      (fun b o h0 h1 h2 h3 h4 e => up b o h0 (hkp b o h1 h2 h3 h4 (hkeep b o h0 h1 h2 h3 h4 e))) (Heap.get?_update_self _ hS' rfl) (by rw [Array.toList_push, hacc, List.map_append]; rfl) (by rw [List.length_append, hal]; rfl) ⟨?_, ?_, ?_⟩⟩) (by rw [hsz]; omega) (by show (acc.push (Value.ref h.objs.size)).size ≤ sizeLine + 1; rw [Array.size_push, hsz]; omega)
    · refine List.pairwise_append.mpr ⟨hG.rise, List.pairwise_singleton _ _, fun a ha b hb => ?_⟩
      rw [List.mem_singleton.mp hb]
      exact hG.there ha
    · intro a ha
      rcases List.mem_append.mp ha with ha | ha
      · exact hG.above a ha
      · rw [List.mem_singleton.mp ha]
        exact hSl
    · intro j b hj
      rcases Nat.lt_trichotomy j as.length with h1 | h1 | h1
      · rw [List.getElem?_append_left h1] at hj
        obtain ⟨x', y', e1, e2, e3⟩ := hG.pairs j b hj
        have hb := hG.above b (List.mem_of_getElem? hj)
        exact ⟨x', y', e1, e2, up b _ (Nat.ne_of_gt hb) (hge b _ (Nat.le_of_lt hb) e3)⟩
      · subst h1
        have hb : h.objs.size = b := by simpa using hj
        subst hb
        exact ⟨x, y, by rw [hal]; exact hx, by rw [hal]; exact hy, up _ _ (Nat.ne_of_gt hSl) ht⟩
      · have hnone : (as ++ [h.objs.size])[j]? = none := List.getElem?_eq_none (by rw [List.length_append, List.length_singleton]; omega)
        rw [hnone] at hj
        cases hj
end
theorem zip_no_len : typeLookup (.type "zip") "__len__" = pure none := by rw [typeLookup_type, builtinLookup_eq_fast]; kernel_rfl
theorem zip_no_hint : typeLookup (.type "zip") "__length_hint__" = pure none := by rw [typeLookup_type, builtinLookup_eq_fast]; kernel_rfl
section
variable {prog : Program} {w : World} {A : Around} {E : Value → Shared → Prop} {s : Shared} {z TI TO i1 i2 l1 l2 : Addr} {xs ys : Array Value} {n : Nat}
theorem extend {R : Result → Shared → Prop} {S : Addr} (hh : A.handled = none) (D : ZipApart z TI TO i1 i2 l1 l2) (L : Low z TI TO i1 i2 l1 l2 S) (n1 : xs.size = n) (n2 : ys.size = n) (hn : n ≤ sizeLine) (hst : St s.heap z TI TO i1 i2 l1 l2 S xs ys 0) (hz : IsZip s.heap z TI TO .none)
    (res : Value) (c₀ : Nat) (hS : s.heap.get? S = some { cls := .type "list", data := .seq #[] c₀ })
    (hR : ∀ h' tk acc c as, (∀ b o, b ≠ S → b ≠ z → b ≠ TO → b ≠ i1 → b ≠ i2 → s.heap.get? b = some o → h'.get? b = some o) → h'.get? S = some { cls := .type "list", dict := none, data := .seq acc c, slots := #[] } → as.length = n → Made xs ys S h' as →
      acc.toList = as.map Value.ref → R (.ok (.ret res)) { s with heap := h', toks := tk }) :
    wpAny (model prog w) A.in1 (Builtin.List.listExtendWith (.ref S) (.ref z) res)
      (fun fin s' => match fin with | .done f => R (.ok f) s' | .again c' => c'.quiet = true ∧ codeAny (model prog w) A c' R s') (fun e s' => R (.error e) s') s := by
  have hT : s.TypeIs (.ref z) "zip" := ⟨_, hz, rfl⟩
  have nz : S ≠ z := Nat.ne_of_gt L.z
  have key : ∀ (h : Heap) (c₁ : Nat), (∀ b o, b ≠ S → s.heap.get? b = some o → h.get? b = some o) → h.get? S = some { cls := .type "list", data := .seq #[] c₁ } →
      codeAny (model prog w) A (.builtin "list.extend.loop" ⟨[.ref S, .ref z, res], []⟩) R { s with heap := h, toks := s.toks } := by
    intro h c₁ hk hS₁
    exact loop (s := s) (h₁ := s.heap) hh D L n1 n2 hn res hR n 0 h s.toks c₁ #[] [] (Nat.sub_zero _) (Nat.zero_le _) (hst.keep L hk) (fun b o h0 _ _ _ _ e => hk b o h0 e) hS₁ rfl rfl
      ⟨List.Pairwise.nil, (fun _ ha => nomatch ha), (fun j a hj => by simp at hj)⟩
  unfold Builtin.List.listExtendWith
  refine wpAny_bind (wpAny_typeOf (T := "zip") hT ?_)
  have h1 : Builtin.List.listSameRef (.ref S) (.ref z) = false := by simp [Builtin.List.listSameRef, nz]
  have h2 : (Value.type "zip" == Value.type "list") = false := by decide
  have h3 : (Value.type "zip" == Value.type "tuple") = false := by decide
  simp only [h1, h2, h3, Bool.or_false, Bool.false_eq_true, if_false]
  refine wpAny_bind (wpAny_pyIter_zip hz ?_)
  refine wpAny_bind (wpAny_holding ?_)
  unfold Builtin.List.listLengthHint
  refine wpAny_bind (wpAny_specialOf hT zip_no_len ?_)
  show wpAny _ A.in1 (specialOf (Value.ref z) (Str.ofString "__length_hint__") >>= _) _ _ _
  refine wpAny_bind (wpAny_specialOf hT zip_no_hint ?_)
  refine wpAny_pure ?_
  refine wpAny_ite_split (fun _ => ?_) (fun _ => wpAny_pure ⟨plainId_quiet PySem.F.plain_extend_loop _, key _ c₀ (fun b o _ e => e) hS⟩)
  refine wpAny_bind (wpAny_rule ?_)
  refine wpAny_bind ?_
  show wpAny _ _ (updateSeq S (·.push .none) >>= fun _ => updateSeq S (·.pop)) _ _ _
  refine wpAny_bind (wpAny_updateSeq hS rfl ?_)
  have hS₂ := Heap.get?_update_self (Obj.mapSeq (·.push Value.none)) hS rfl
  refine wpAny_updateSeq (hz := by seq_fits) hS₂ rfl ?_
  have hS₃ := Heap.get?_update_self (Obj.mapSeq (·.pop)) hS₂ rfl
  refine wpAny_pure ⟨plainId_quiet PySem.F.plain_extend_loop _, key _ _ (fun b o hb e => ?_) hS₃⟩
  exact (Heap.get?_update_other _ _ (Ne.symm hb)).trans ((Heap.get?_update_other _ _ (Ne.symm hb)).trans e)
theorem init {R : Result → Shared → Prop} {S : Addr} (hh : A.handled = none) (D : ZipApart z TI TO i1 i2 l1 l2) (L : Low z TI TO i1 i2 l1 l2 S) (n1 : xs.size = n) (n2 : ys.size = n) (hn : n ≤ sizeLine) (hst : St s.heap z TI TO i1 i2 l1 l2 S xs ys 0) (hz : IsZip s.heap z TI TO .none)
    (hS : s.heap.get? S = some { cls := .type "list", data := .seq #[] })
    (hR : ∀ h' tk acc c as, (∀ b o, b ≠ S → b ≠ z → b ≠ TO → b ≠ i1 → b ≠ i2 → s.heap.get? b = some o → h'.get? b = some o) → h'.get? S = some { cls := .type "list", dict := none, data := .seq acc c, slots := #[] } → as.length = n → Made xs ys S h' as →
      acc.toList = as.map Value.ref → R (.ok (.ret .none)) { s with heap := h', toks := tk }) :
    wpAny (model prog w) A.in1 (Builtin.«list.__init__» ⟨[.ref S, .ref z], []⟩)
      (fun fin s' => match fin with | .done f => R (.ok f) s' | .again c' => c'.quiet = true ∧ codeAny (model prog w) A c' R s') (fun e s' => R (.error e) s') s := by
  show wpAny _ _ (do let old ← Builtin.List.listItems (.ref S); Builtin.List.listUpdate (.ref S) (fun _ => #[]); letGo old.toList.reverse; Builtin.List.listExtendWith (.ref S) (.ref z) .none) _ _ s
  refine wpAny_bind ?_
  unfold Builtin.List.listItems
  refine wpAny_bind (wpAny_seqItems hS rfl (wpAny_pure ?_))
  show wpAny _ _ (updateSeq S (fun _ => #[]) >>= fun _ => letGo (#[] : Array Value).toList.reverse >>= fun _ => Builtin.List.listExtendWith (.ref S) (.ref z) .none) _ _ s
  refine wpAny_bind (wpAny_updateSeq hS rfl ?_)
  have hS₂ := Heap.get?_update_self (Obj.mapSeq (fun _ => (#[] : Array Value))) hS rfl
  have oth : ∀ b o, b ≠ S → s.heap.get? b = some o → (s.heap.update S (Obj.mapSeq (fun _ => (#[] : Array Value)))).get? b = some o :=
    fun b o hb e => (Heap.get?_update_other _ _ (Ne.symm hb)).trans e
  refine wpAny_bind (wpAny_letGo ?_)
  refine extend hh D L n1 n2 hn (hst.keep L oth) (oth _ _ (Nat.ne_of_lt L.z) hz) .none _ hS₂ fun h' tk acc c as hk hS' hl hG hacc => ?_
  exact hR h' tk acc c as (fun b o h0 h1 h2 h3 h4 e => hk b o h0 h1 h2 h3 h4 (oth b o h0 e)) hS' hl hG hacc
theorem call_list {Q : Value → Shared → Prop} (hh : A.handled = none) (D : ZipApart z TI TO i1 i2 l1 l2) (L : Low z TI TO i1 i2 l1 l2 s.heap.objs.size) (n1 : xs.size = n) (n2 : ys.size = n) (hn : n ≤ sizeLine) (hst : St s.heap z TI TO i1 i2 l1 l2 s.heap.objs.size xs ys 0) (hz : IsZip s.heap z TI TO .none)
    (hQ : ∀ h' tk acc c as, (∀ b o, b ≠ z → b ≠ TO → b ≠ i1 → b ≠ i2 → s.heap.get? b = some o → h'.get? b = some o) → h'.get? s.heap.objs.size = some { cls := .type "list", dict := none, data := .seq acc c, slots := #[] } → as.length = n → Made xs ys s.heap.objs.size h' as →
      acc.toList = as.map Value.ref → Q (.ref s.heap.objs.size) { s with heap := h', toks := tk }) :
    wpAny (model prog w) A (call (.type "list") [.ref z]) Q E s := by
  refine callType_codes (Q₁ := fun obj s₁ => obj = .ref s.heap.objs.size ∧ s₁ = { s with heap := s.heap.push { cls := .type "list", data := .seq #[] } }) PySem.F.called_list (PySem.F.typeCall_list_1 _) PySem.F.entry_list_init
    (code_list_new _ ⟨rfl, rfl⟩) fun obj s₁ h₁ => ?_
  obtain ⟨rfl, rfl⟩ := h₁
  have hS : (s.heap.push { cls := .type "list", data := .seq #[] }).get? s.heap.objs.size = some { cls := .type "list", data := .seq #[] } := Heap.get?_push_size _ rfl
  refine ⟨⟨_, hS, rfl⟩, PySem.F.args_list_init_2 _ _, init (A := A.in1) hh D L n1 n2 hn (hst.keep L fun b o _ e => Heap.get?_push_of_some _ e) (Heap.get?_push_of_some _ hz) hS (fun h' tk acc c as hk hS' hl hG hacc => ?_)⟩
  exact ⟨rfl, hQ h' tk acc c as (fun b o h1 h2 h3 h4 e => hk b o (Nat.ne_of_lt (Heap.lt_size e)) h1 h2 h3 h4 (Heap.get?_push_of_some _ e)) hS' hl hG hacc⟩
end
/-- the tuples tracked at their addresses -/
def putT : Hp → List Addr → List (V × V) → Hp
  | H, a :: as, p :: kvs => putT (upd H a (.tup [p.1, p.2])) as kvs
  | H, _, _ => H
theorem putT_off {b : Addr} : ∀ (as : List Addr) (kvs : List (V × V)) (H : Hp), b ∉ as → putT H as kvs b = H b
  | [], _, _, _ => rfl
  | _ :: _, [], _, _ => rfl
  | a :: as, p :: kvs, H, h => by
    show putT (upd H a (.tup [p.1, p.2])) as kvs b = H b
    rw [putT_off as kvs _ (fun z => h (List.mem_cons_of_mem _ z)), upd_ne (fun z => h (by rw [z]; exact List.mem_cons_self))]
theorem putT_at : ∀ (as : List Addr) (kvs : List (V × V)) (H : Hp), as.length = kvs.length → as.Nodup → Paired (fun (t : Addr) (p : V × V) => putT H as kvs t = some (.tup [p.1, p.2])) as kvs
  | [], [], _, _, _ => .nil
  | [], _ :: _, _, h, _ => by cases h
  | _ :: _, [], _, h, _ => by cases h
  | a :: as, p :: kvs, H, h, hn => by
    have hn' := List.nodup_cons.mp hn
    have ih := putT_at as kvs (upd H a (.tup [p.1, p.2])) (Nat.succ.inj h) hn'.2
    refine .cons ?_ ih
    show putT (upd H a (.tup [p.1, p.2])) as kvs a = some (.tup [p.1, p.2])
    rw [putT_off as kvs _ hn'.1, upd_same]
theorem laid {X : Cx} {pins : List (Addr × Obj)} {σ : L2.St} {H : Hp} {s : Shared} {h' : Heap} {tk : Nat} {vs us : List V} {xs ys : List Value} {acc : Array Value} {c : Nat} {as : List Addr} {S : Addr} (I : Inv X pins σ H s) (lS : s.heap.objs.size ≤ S) (hz : vs.length ≤ sizeLine) (le : vs.length = us.length) (rv : Vals vs xs) (ru : Vals us ys)
    (hk : ∀ b o, s.heap.get? b = some o → h'.get? b = some o) (hS : h'.get? S = some { cls := .type "list", dict := none, data := .seq acc c, slots := #[] }) (hl : as.length = vs.length) (hG : Made xs.toArray ys.toArray S h' as) (hacc : acc.toList = as.map Value.ref) :
    ∃ H' : Hp, (∀ b o, H b = some o → H' b = some o) ∧ H S = none ∧ (∀ t ∈ as, H t = none) ∧ S ∉ as ∧ H' S = some (.lst (as.map V.ref)) ∧ Paired (fun (t : Addr) (q : V × V) => H' t = some (.tup [q.1, q.2])) as (vs.zip us) ∧ Inv X pins σ H' { s with heap := h', toks := tk } := by
  have hSn : S ∉ as := fun z => Nat.lt_irrefl _ (hG.above _ z)
  have nd : as.Nodup := List.Pairwise.imp (fun {a b} (h : a < b) => Nat.ne_of_lt h) hG.rise
  have new : ∀ t ∈ as, H t = none := fun t ht => I.hok.fresh (Nat.le_trans lS (Nat.le_of_lt (hG.above t ht)))
  have newS : H S = none := I.hok.fresh lS
  have atP := putT_at as (vs.zip us) (upd H S (.lst (as.map V.ref))) (by rw [List.length_zip]; omega) nd
  have off : ∀ b, b ∉ as → b ≠ S → putT (upd H S (.lst (as.map V.ref))) as (vs.zip us) b = H b := fun b h1 h2 => by rw [putT_off as (vs.zip us) _ h1, upd_ne h2]
  have low : ∀ b o, s.heap.get? b = some o → b ∉ as ∧ b ≠ S := fun b o e => ⟨fun z => absurd (Nat.lt_of_lt_of_le (Heap.lt_size e) lS) (Nat.not_lt.mpr (Nat.le_of_lt (hG.above b z))), Nat.ne_of_lt (Nat.lt_of_lt_of_le (Heap.lt_size e) lS)⟩
  have kp : ∀ b u, H b = some u → (putT (upd H S (.lst (as.map V.ref))) as (vs.zip us)) b = some u := fun b u e => by
    rw [off b (fun z => by rw [new b z] at e; cases e) (fun z => by rw [z, newS] at e; cases e)]
    exact e
  have eS : putT (upd H S (.lst (as.map V.ref))) as (vs.zip us) S = some (.lst (as.map V.ref)) := by rw [putT_off as (vs.zip us) _ hSn, upd_same]
  refine ⟨putT (upd H S (.lst (as.map V.ref))) as (vs.zip us), kp, newS, new, hSn, eS, atP, ?_⟩
  refine I.call' (ch := []) rfl ⟨fun b o q _ _ _ => hk b o q, fun b o q _ _ _ => ⟨o.slots, hk b o q⟩, fun b o q n _ => ?_, fun b o q _ => ⟨o, hk b o q⟩, fun b xs q => kp b _ q, fun b o u q => kp b _ q, fun b ps q => ⟨#[], by rw [kp b _ q]; simp⟩⟩ (fun b u q => ?_) I.bare fun b z => by simp at z
  · obtain ⟨z1, z2⟩ := low b o q
    rw [off b z1 z2]
    exact n
  · by_cases hb : b ∈ as
    · obtain ⟨j, pk, e1, e2, e3⟩ := LiI.paired_ix atP hb
      rw [e3] at q
      cases q
      obtain ⟨x, y, f1, f2, f3⟩ := hG.pairs j b e1
      obtain ⟨g1, g2⟩ := List.getElem?_zip_eq_some.mp e2
      obtain ⟨x', m1, m2⟩ := rv.get g1
      obtain ⟨y', m3, m4⟩ := ru.get g2
      have ex : x' = x := by
        rw [List.getElem?_toArray, m1] at f1
        exact Option.some.inj f1
      have ey : y' = y := by
        rw [List.getElem?_toArray, m3] at f2
        exact Option.some.inj f2
      subst ex ey
      exact ⟨by show 2 ≤ sizeLine; decide, [x', y'], .cons m2 (.cons m4 .nil), ⟨_, f3, rfl, _, rfl⟩⟩
    · by_cases hb2 : b = S
      · rw [hb2] at q ⊢
        rw [eS] at q
        cases q
        refine ⟨by rw [List.length_map]; omega, acc.toList, c, by rw [hacc]; exact LiI.vals_refs as, ?_⟩
        rw [Array.toArray_toList]
        exact hS
      · rw [off b hb hb2] at q
        exact (I.hok b u q).stay (fun d v _ y => hk d v y) (fun d y => kp d _ y) fun d xs y => kp d _ y
def rListZip (K : PySem.W.Frag) : List V → Hp → VK → Prop := fun zs H Q => ∃ (a b : Addr) (vs us : List V), zs = [.ref a, .ref b] ∧ SqL K H a vs ∧ SqL K H b us ∧ vs.length = us.length ∧
  ∀ (H' : Hp) (p : Addr) (ts : List Addr), (∀ b o, H b = some o → H' b = some o) → H p = none → (∀ t ∈ ts, H t = none) → p ∉ ts → H' p = some (.lst (ts.map V.ref)) → Paired (fun (t : Addr) (q : V × V) => H' t = some (.tup [q.1, q.2])) ts (vs.zip us) → Q (.ref p) H'
def tListZip (K : PySem.W.Frag) (ta : TA) : TE := fun σ H Q => ta σ H fun zs H1 => rListZip K zs H1 Q
/-- list(zip(xs, ys)) -/
theorem pe_listZip {X : Cx} {e e2 : Expr} {ta : TA} {p pz pz2 pos : Pos} (hc : X.calm = true) (hg : Gl X "list") (hm : X.mg "list" = none) (hgz : Gl X "zip") (hmz : X.mg "zip" = none) (ha : PA X [e, e2] ta) (hv : bootBuiltins "list" = some (.type "list") := by rfl)
    (hs : starEach [e, e2] X.env = (false, eval e X.env) :: starEach [e2] X.env := by rfl) (hpl : (backTo pz2 (starEach [e2] X.env)).any (·.1) = false := by rfl)
    (hs1 : starEach [.Call (.Name "zip" pz) [e, e2] [] pz2] X.env = (false, eval (.Call (.Name "zip" pz) [e, e2] [] pz2) X.env) :: starEach [] X.env := by rfl) :
    PE X (.Call (.Name "list" p) [.Call (.Name "zip" pz) [e, e2] [] pz2] [] pos) (tListZip X.K ta) := by
  refine ⟨fun pins s σ H Q I hq => ?_⟩
  refine wpAny_Call_Name_kw (ld_blt I hg hm hv ?_)
  refine PyProof.Rows.callWith_type1 ?_ hs1 rfl
  rw [hs1]
  show wpAny _ _ (spliced ((false, eval (.Call (.Name "zip" pz) [e, e2] [] pz2) X.env) :: backTo pos (starEach [] X.env))) _ _ s
  refine Calls.spliced_cons ?_
  refine Call_ (ld_blt I hgz hmz PyProof.Rows.boot_zip (PyProof.Rows.callWith_type1 (thn (ha.run pz2 pins s σ H _ I hq) fun us s1 ⟨vs, H1, I1, r1, q1⟩ => ?_) hs hpl))
  obtain ⟨a, b, xs, ys, ex, hqx, hqy, hlen, q⟩ := q1
  subst ex
  cases r1 with
  | cons r rr =>
    cases rr with
    | cons r' rr =>
      cases rr
      cases r
      cases r'
      obtain ⟨its, rv, p1, z1⟩ := I1.list hqx
      obtain ⟨its2, rv2, p2, _⟩ := I1.list hqy
      have la : a < s1.heap.objs.size := p1.lt
      have lb : b < s1.heap.objs.size := p2.lt
      have n1 := rv.length
      have n2 := rv2.length
      refine call_zip_2 p1.isList p2.isList fun h' hz hTI hTO h1 h2 hsz hk => ?_
      refine Calls.spliced_nil ?_
      have L : Low (s1.heap.objs.size + 4) (s1.heap.objs.size + 2) (s1.heap.objs.size + 3) s1.heap.objs.size (s1.heap.objs.size + 1) a b h'.objs.size := by
        rw [hsz]
        exact ⟨Nat.add_lt_add_left (by decide) _, Nat.add_lt_add_left (by decide) _, Nat.add_lt_add_left (by decide) _, Nat.lt_add_of_pos_right (by decide), Nat.add_lt_add_left (by decide) _, Nat.lt_of_lt_of_le la (Nat.le_add_right _ _), Nat.lt_of_lt_of_le lb (Nat.le_add_right _ _)⟩
      refine call_list (s := { s1 with heap := h' }) (n := xs.length) (xs := its.toArray) (ys := its2.toArray) (I1.ok.hd hc) (PySem.W.ktu_apart s1.heap.objs.size a b la lb) L (by rw [List.size_toArray]; omega) (by rw [List.size_toArray]; omega) z1
        ⟨.inl hz, hTI, ⟨_, _, hTO⟩, h1, h2, p1.isList.at fun o e => hk _ o e, p2.isList.at fun o e => hk _ o e⟩ hz fun h2' tk acc c as hk2 hS hl hG hacc => ?_
      have old : ∀ c o, s1.heap.get? c = some o → h2'.get? c = some o := fun c o e => by
        have lc := Heap.lt_size e
        exact hk2 c o (Nat.ne_of_lt (Nat.lt_of_lt_of_le lc (Nat.le_add_right _ _))) (Nat.ne_of_lt (Nat.lt_of_lt_of_le lc (Nat.le_add_right _ _))) (Nat.ne_of_lt lc) (Nat.ne_of_lt (Nat.lt_of_lt_of_le lc (Nat.le_add_right _ _))) (hk c o e)
      obtain ⟨H', k1, k2, k3, k4, k5, k6, J⟩ := laid (tk := tk) I1 (by show s1.heap.objs.size ≤ h'.objs.size; rw [hsz]; exact Nat.le_add_right _ _) z1 hlen rv rv2 old hS hl hG hacc
      exact ⟨.ref _, H', J, rfl, q H' _ as k1 k2 k3 k4 k5 k6⟩
end L2.Zx

/-! Tuples that are known to be of the plain kind, and dict(t) of a tuple of pairs. -/
namespace L2.Hx
open PySem PySem.Spec PyProof.Rows
def PlO (o : Obj) : Prop := o.cls = .type "tuple" ∧ o.dict = none
def PlT (H : Hp) (a : Addr) (xs : List V) : Prop := ∃ o, PlO o ∧ H a = some (.frz o (.tup xs))
theorem PlT.sqT {K : PySem.W.Frag} {H : Hp} {a : Addr} {xs : List V} (h : PlT H a xs) : SqT K H a xs := by
  obtain ⟨o, _, e⟩ := h
  exact .inl (.inr ⟨o, e⟩)
theorem PlT.same {G H : Hp} {a : Addr} {xs : List V} (s : Same G H) (h : PlT G a xs) : PlT H a xs := by
  obtain ⟨o, p, e⟩ := h
  exact ⟨o, p, s _ _ e⟩
def tTupP (t : TA) : TE := fun σ H Q => t σ H fun xs H1 => xs.length ≤ sizeLine ∧ ∀ p o, PlO o → H1 p = none → Q (.ref p) (upd H1 p (.frz o (.tup xs)))
section
variable {X : Cx}
theorem pe_tupP {es : List Expr} {pos : Pos} {t : TA} {x1} (h : PA X es t) : PE X (.Tuple es x1 pos) (tTupP t) := by
  refine ⟨fun pins s σ H Q I hq => ?_⟩
  refine wpAny_Tuple_spliced (thn (h.run pos pins s σ H _ I hq) fun us s1 ⟨xs, H1, I1, r, z, q⟩ => ⟨by rw [← r.length]; exact z, ?_⟩)
  have hf : H1 s1.heap.objs.size = none := I1.hok.fresh (Nat.le_refl _)
  refine ⟨.ref s1.heap.objs.size, _, I1.laid (t' := s1.toks) (o := .frz { cls := .type "tuple", data := .seq us.toArray } (.tup xs)) (fun b u e => Heap.get?_push_of_some _ e) (Nat.le_refl _) ?_, rfl, q _ _ ⟨rfl, rfl⟩ hf⟩
  exact ⟨Heap.get?_push_size _ rfl, z, us, r, ⟨_, Heap.get?_push_size _ rfl, rfl, _, rfl⟩⟩
theorem call_tuple_ofP : CallR X (.type "tuple") (fun xs H Q => ∃ p ys, xs = [.ref p] ∧ SqL X.K H p ys ∧ ∀ l o, PlO o → H l = none → Q (.ref l) (upd H l (.frz o (.tup ys)))) := by
  intro pins s σ H xs us Q I r h
  obtain ⟨p, ys, rfl, hq, q⟩ := h
  obtain ⟨u, rfl, rx⟩ := vals1 r
  cases rx
  obtain ⟨its, r', pl, hz⟩ := I.list hq
  have hlen := r'.length
  refine call_tuple_list pl.isList (fun h' kp => ?_) (by simp only [List.size_toArray] <;> omega)
  have I1 : Inv X pins σ H { s with heap := h' } := I.kept (t' := s.toks) kp
  have I2 : Inv X pins σ (upd H h'.objs.size (.frz { cls := .type "tuple", data := .seq its.toArray } (.tup ys))) { s with heap := h'.push { cls := .type "tuple", data := .seq its.toArray } } :=
    I1.laid (t' := s.toks) (fun b o e => Heap.get?_push_of_some _ e) (Nat.le_refl _) (show ObjOk X.prog X.w _ _ _ (.frz _ (.tup ys)) from ⟨Heap.get?_push_size _ rfl, hz, its, r', IsTup.new _ _⟩)
  exact ⟨.ref h'.objs.size, _, I2, rfl, q _ _ ⟨rfl, rfl⟩ (I1.hok.fresh (Nat.le_refl _))⟩
/-- t + u, none of both empty -/
def rCatP (K : PySem.W.Frag) : R2 := fun x y H Q => ∃ a b xs ys, x = .ref a ∧ y = .ref b ∧ SqT K H a xs ∧ SqT K H b ys ∧ xs ≠ [] ∧ ys ≠ [] ∧ xs.length + ys.length ≤ sizeLine ∧ ∀ p o, PlO o → H p = none → Q (.ref p) (upd H p (.frz o (.tup (xs ++ ys))))
theorem op_catP : OpR X (binaryOp .Add) (rCatP X.K) := by
  intro pins s σ H x y v u Q I rx ry h
  obtain ⟨a, b, xs, ys, rfl, rfl, ha, hb, hx, hy, hz, q⟩ := h
  cases rx
  cases ry
  obtain ⟨its, r1, p1, _⟩ := I.tuple ha
  obtain ⟨its2, r2, p2, _⟩ := I.tuple hb
  refine HT.cat_tup p1 p2 (fun z => hx (r1.nil_iff.mp z)) (fun z => absurd (r2.nil_iff.mp z) hy) (fun z => ?_) (by rw [← r1.length, ← r2.length]; exact hz)
  refine ⟨.ref s.heap.objs.size, _, I.laid (t' := s.toks) (o := .frz { cls := .type "tuple", data := .seq (its ++ its2).toArray } (.tup (xs ++ ys))) (fun b ob q => Heap.get?_push_of_some _ q) (Nat.le_refl _) ?_, rfl, q _ _ ⟨rfl, rfl⟩ (I.hok.fresh (Nat.le_refl _))⟩
  exact ⟨Heap.get?_push_size _ rfl, by rw [List.length_append]; exact hz, _, r1.append r2, IsTup.new _ _⟩
theorem pairs_v {pins : List (Addr × Obj)} {σ : L2.St} {H : Hp} {s : Shared} (I : Inv X pins σ H s) : ∀ {ps : List Addr} {kvs : List (Key × V)}, Paired (fun p kv => SqT X.K H p [kV kv.1, kv.2]) ps kvs →
    ∃ (prs : List (Key × Value)) (vvs : List (Value × Value)), KV kvs prs ∧ prs.length = ps.length ∧ vvs.length = ps.length ∧ ∀ (j : Nat) (k v : Value), vvs[j]? = some (k, v) → ∃ (b : Addr) (key : Key), ps[j]? = some b ∧ IsTup s.heap b #[k, v] ∧ prs[j]? = some (key, v) ∧ keyIs key k = true
  | _, _, .nil => ⟨[], [], .nil, rfl, rfl, fun j k v e => by simp at e⟩
  | _, _, .cons (a := p) (b := kv) h t => by
    obtain ⟨prs, vvs, r, hl, hl2, hp⟩ := pairs_v I t
    obtain ⟨its, rv, ht, _⟩ := I.tuple h
    obtain ⟨u, y, ei, ru, ry⟩ := vals2 rv
    subst ei
    refine ⟨(kv.1, y) :: prs, (u, y) :: vvs, .cons ⟨rfl, ry⟩ r, by rw [List.length_cons, List.length_cons, hl], by rw [List.length_cons, List.length_cons, hl2], fun j k v e => ?_⟩
    cases j with
    | zero =>
      have e' : (u, y) = (k, v) := Option.some.inj e
      cases e'
      exact ⟨p, kv.1, rfl, ht, rfl, kV_is (P := X.prog) (w := X.w) ru⟩
    | succ j =>
      obtain ⟨b, key, e1, e2, e3, e4⟩ := hp j k v (by simpa using e)
      exact ⟨b, key, by simpa using e1, e2, by simpa using e3, e4⟩
/-- dict(t), t a plain tuple of pairs -/
def rDictT (K : PySem.W.Frag) : List V → Hp → VK → Prop := fun xs H Q => ∃ (a : Addr) (ps : List Addr) (kvs : List (Key × V)), xs = [.ref a] ∧ PlT H a (ps.map V.ref) ∧ Paired (fun p kv => SqT K H p [kV kv.1, kv.2]) ps kvs ∧
  ∀ p, H p = none → Q (.ref p) (upd H p (.dK (mergeK [] kvs)))
theorem call_dictPT (hcalm : X.calm = true) : CallR X (.type "dict") (rDictT X.K) := by
  intro pins s σ H xs us Q I r q
  obtain ⟨a, ps, kvs, ex, ⟨ob, ⟨oc, od⟩, ha⟩, hp, q⟩ := q
  subst ex
  obtain ⟨u, eu, rx⟩ := vals1 r
  subst eu
  cases rx
  obtain ⟨e, hz, its, rv, o2, ho2, hc2, n, hd2⟩ := I.hok a _ ha
  have eo : ob = o2 := by
    rw [e] at ho2
    exact Option.some.inj ho2
  subst eo
  have ei := refs_at rv
  subst ei
  rw [List.length_map] at hz
  obtain ⟨prs, vvs, rel, hl, hl2, hpr⟩ := pairs_v I hp
  refine PySem.call_dict_pairs (knd := mixKind X.prog X.w) (kvs := prs) (PairArg.tuple a (ps.map Value.ref).toArray (fun j => ps.getD j 0) vvs) (I.ok.hd hcalm) ⟨⟨ob, n, e, oc, od, hd2⟩, by rw [List.size_toArray, List.length_map, hl2], fun j k v hj => ?_⟩ ⟨by rw [hl, hl2], fun i key v hv => ?_⟩ (by rw [hl2]; exact hz) fun h' tk hd' hk => ?_
  · obtain ⟨b, key, e1, e2, e3, e4⟩ := hpr j k v hj
    have eb : ps.getD j 0 = b := by rw [List.getD_eq_getElem?_getD, e1]; rfl
    refine ⟨?_, .inl ?_⟩
    · show _ = some (Value.ref (ps.getD j 0))
      rw [List.getElem?_toArray, List.getElem?_map, e1, eb]
      rfl
    · show s.heap.IsTuple (ps.getD j 0) _
      rw [eb]
      exact e2
  · obtain ⟨b, kk, e1, e2, e3, e4⟩ := hpr i key v hv
    exact ⟨kk, e3, e4⟩
  · have hm : (s.heap.objs.size == sysModules) = false := beq_eq_false_iff_ne.mpr (Nat.ne_of_gt I.big)
    have hlen : (mergeK [] kvs).length ≤ sizeLine := by
      refine Nat.le_trans (length_mergeK kvs []) ?_
      rw [List.length_nil, Nat.zero_add, rel.length, hl]
      exact hz
    exact ⟨.ref s.heap.objs.size, upd H s.heap.objs.size (.dK (mergeK [] kvs)), I.laid (t' := tk) (fun b o e => hk b o List.not_mem_nil e) (Nat.le_refl _) (show ObjOk X.prog X.w _ _ _ (.dK (mergeK [] kvs)) from ⟨hlen, hm, merged [] prs, KV.merge rel .nil, hd'⟩), rfl, q _ (I.hok.fresh (Nat.le_refl _))⟩
end
/-- a def by the names of its parameters, in any order: g puts them in order -/
theorem pe_kwg {X : Cx} {k j : Nat} {x : Str} {ps ks : List Str} {sp : Sp} {p pos : Pos} {kws : List Keyword} {tk : TA} {g : {α : Type} → List α → List α} (F : ∃ f fd, FnG X.prog X.w X.K X.mg X.base CX0 k f fd ps sp ∧ X.mg x = some (.ref f) ∧ PySem.W.keepIn X.K (.ref f) = true ∧ KwBinds X.K fd ps ks g) (hgd : X.A.guards = some []) (hr : Room j X.A) (hkw : PK X kws tk)
    (hrel : ∀ {zs : List V} {ws : List Value}, Vals zs ws → Vals (g zs) (g ws)) (hj : k ≤ j := by first | exact Nat.le_refl _ | decide)
    (hg : Gl X x := by rfl) (hall : (backToKw pos (keywordEach kws X.env)).all (·.1.isSome) = true := by rfl) (hks : (backToKw pos (keywordEach kws X.env)).filterMap (·.1) = ks := by rfl) (hdb : (x == ("__debug__" : Str)) = false := by decide)
    (hpl : ((backTo pos (starEach [] X.env)).any (·.1) || (backToKw pos (keywordEach kws X.env)).any (·.1.isNone)) = false := by rfl) :
    PE X (.Call (.Name x p) [] kws pos) (tKw sp g ps.length E0 tk) := by
  obtain ⟨f, fd, a, b, c, d⟩ := F
  exact pe_kw a hgd (hr.mono hj) hg b c d pass0 hkw hrel hall hks hdb hpl
/-- three by turns: the last two come first -/
def rot3 {α : Type} : List α → List α
  | [a, b, c] => [b, c, a]
  | l => l
def swap2 {α : Type} : List α → List α
  | [a, b] => [b, a]
  | l => l
theorem rot3_rel {zs : List V} {ws : List Value} (h : Vals zs ws) : Vals (rot3 zs) (rot3 ws) := by
  match zs, ws, h with
  | [], [], .nil => exact .nil
  | [_], [_], .cons a .nil => exact .cons a .nil
  | [_, _], [_, _], .cons a (.cons b .nil) => exact .cons a (.cons b .nil)
  | [_, _, _], [_, _, _], .cons a (.cons b (.cons c .nil)) => exact .cons b (.cons c (.cons a .nil))
  | _ :: _ :: _ :: _ :: _, _ :: _ :: _ :: _ :: _, h => exact h
theorem swap2_rel {zs : List V} {ws : List Value} (h : Vals zs ws) : Vals (swap2 zs) (swap2 ws) := by
  match zs, ws, h with
  | [], [], .nil => exact .nil
  | [_], [_], .cons a .nil => exact .cons a .nil
  | [_, _], [_, _], .cons a (.cons b .nil) => exact .cons b (.cons a .nil)
  | _ :: _ :: _ :: _, _ :: _ :: _ :: _, h => exact h
end L2.Hx

/-! A tuple turned about, and a tuple beside the empty one. -/
namespace L2.Hx
open PySem PySem.Spec PyProof.Rows HT
section
variable {prog : Program} {w : World} {A : Around} {E : Value → Shared → Prop} {s : Shared}
theorem adjust_rev (n : Nat) : Builtin.Slice.sliceAdjust none none (-1) (n : Int) = ((n : Int) - 1, -1) := by
  unfold Builtin.Slice.sliceAdjust
  simp
theorem places_rev (n : Nat) : Builtin.Slice.slicePlaces ((n : Int) - 1) (-1) (-1) = n := by
  unfold Builtin.Slice.slicePlaces
  have h1 : ¬ ((-1 : Int) > 0) := by omega
  have h2 : (-(-1) : Int) = 1 := by omega
  simp only [h1, if_false, h2, Int.ediv_one]
  split <;> omega
theorem fm_congr {α : Type} {f g : Nat → Option α} : ∀ {l : List Nat}, (∀ m ∈ l, f m = g m) → l.filterMap f = l.filterMap g
  | [], _ => rfl
  | m :: l, h => by
    rw [List.filterMap_cons, List.filterMap_cons, h m List.mem_cons_self, fm_congr fun x hx => h x (List.mem_cons_of_mem _ hx)]
theorem sliceApplied_rev {sl : Addr} {vs : Value} {n : Nat} {Q : Int × Int × Nat → Shared → Prop} (hs : s.heap.IsSliceOf sl .none .none vs) (ps : IsPart vs (some (-1))) (h : Q ((n : Int) - 1, -1, n) s) :
    wpAny (model prog w) A (Builtin.Slice.sliceApplied (.ref sl) (pure (n : Int))) Q E s := by
  obtain ⟨os, hos, hcs, hds⟩ := id hs
  unfold Builtin.Slice.sliceApplied Builtin.Slice.sliceFields
  refine wpAny_bind (wpAny_bind (wpAny_field hos hds (x := .none) rfl (wpAny_bind (wpAny_field hos hds (x := .none) rfl (wpAny_bind (wpAny_field hos hds (x := vs) rfl (wpAny_pure ?_)))))))
  refine wpAny_bind (slicePart_ ps ?_)
  show wpAny _ _ (if ((-1 : Int) == 0) = true then _ else _) _ _ s
  rw [if_neg (by decide)]
  refine wpAny_bind (PyProof.Rows.slicePart_none (wpAny_bind (PyProof.Rows.slicePart_none (wpAny_bind (wpAny_pure ?_)))))
  show wpAny _ _ (match Builtin.Slice.sliceAdjust none none (-1) (n : Int) with | (lo, hi) => pure (lo, (-1 : Int), Builtin.Slice.slicePlaces lo hi (-1))) _ _ s
  rw [adjust_rev]
  show wpAny _ _ (pure ((n : Int) - 1, (-1 : Int), Builtin.Slice.slicePlaces ((n : Int) - 1) (-1) (-1))) _ _ s
  rw [places_rev]
  exact wpAny_pure h
theorem pick_rev (xs : Array Value) : ((List.range xs.size).filterMap fun (m : Nat) => xs[(((xs.size : Int) - 1) + (m : Int) * (-1)).toNat]?).toArray = xs.toList.reverse.toArray := by
  have e : (List.range xs.size).filterMap (fun (m : Nat) => xs[(((xs.size : Int) - 1) + (m : Int) * (-1)).toNat]?) = (List.range xs.size).filterMap (fun (m : Nat) => (xs.toList.reverse.toArray)[(((0 : Nat) : Int) + (m : Int) * 1).toNat]?) := by
    refine fm_congr fun m hm => ?_
    have hm := List.mem_range.mp hm
    rw [show (((0 : Nat) : Int) + (m : Int) * 1).toNat = m by omega, show xs.toList.reverse.toArray[m]? = xs.toList.reverse[m]? by simp, List.getElem?_reverse (by rw [Array.length_toList]; exact hm), Array.getElem?_toList, Array.length_toList]
    congr 1
    omega
  rw [e, pick_gen, List.drop_zero, List.toList_toArray, List.take_of_length_le (by simp)]
theorem getItem_tuple_rev {t sl : Addr} {items : Array Value} {vs : Value} {Q : Value → Shared → Prop} (ht : IsTup s.heap t items) (hs : s.heap.IsSliceOf sl .none .none vs) (ps : IsPart vs (some (-1)))
    (h : Q (.ref s.heap.objs.size) { s with heap := s.heap.push { cls := .type "tuple", data := .seq items.toList.reverse.toArray } }) (hsz : items.size ≤ sizeLine) : wpAny (model prog w) A (getItem (.ref t) (.ref sl)) Q E s := by
  have htake : sizeOk (.seq items.toList.reverse.toArray) := by
    show items.toList.reverse.toArray.size ≤ sizeLine
    rw [List.size_toArray, List.length_reverse, Array.length_toList]
    exact hsz
  obtain ⟨os, hos, hcs, hds⟩ := id hs
  have hTs : s.TypeIs (.ref sl) "slice" := ⟨os, hos, hcs⟩
  unfold getItem
  try with_reducible refine wpAny_holding ?_
  first | refine wpAny_bind (wpAny_pure ?_) | skip
  refine wpAny_bind (wpAny_sequenceKey ht.typeIs (by decide) ?_)
  refine wpAny_bind (wpAny_callSpecial?_slot (name := Str.ofString "__getitem__") ht.typeIs PyProof.Rows.slot_tuple_getitem
    (wpAny_call_entry PyProof.Rows.slot_tuple_getitem ht.typeIs entry_tuple_getitem ?_ (args_tuple_getitem _ _)))
  show wpAny _ _ (Builtin.Tuple.tupleItemsOf (.ref t) >>= _) _ _ s
  refine wpAny_bind (tupleItemsOf_ ht ?_)
  refine wpAny_bind (wpAny_typeOf hTs ?_)
  rw [if_pos (by decide)]
  refine wpAny_bind (sliceApplied_rev hs ps ?_)
  have hno : ¬ ((((items.size : Int) - 1) == 0 && (-1 : Int) == 1 && items.size == items.size) = true) := by simp
  show wpAny _ _ (if (((items.size : Int) - 1) == 0 && (-1 : Int) == 1 && items.size == items.size) = true then _ else _) _ _ s
  rw [if_neg hno, pick_rev]
  first
    | exact wpAny_bind (m := Builtin.Tuple.tupleExact _) (wpAny_newObj_type (wpAny_pure ⟨_, rfl, wpAny_pure h⟩) htake)
    | exact wpAny_bind (m := Builtin.Tuple.tupleExact _) (wpAny_newObj_type (wpAny_bind (wpAny_pure (wpAny_pure ⟨_, rfl, wpAny_pure h⟩))) htake)
    | exact wpAny_bind (wpAny_bind (m := Builtin.Tuple.tupleExact _) (wpAny_newObj_type (wpAny_pure (wpAny_pure ⟨_, rfl, wpAny_pure h⟩)) htake))
    | exact wpAny_bind (wpAny_bind (m := Builtin.Tuple.tupleExact _) (wpAny_newObj_type (wpAny_pure ⟨_, rfl, wpAny_pure h⟩) htake))
end
/-- t[::-1] -/
def tRevT (K : PySem.W.Frag) (te : TE) : TE := fun σ H Q => te σ H fun x H1 => ∃ a xs, x = .ref a ∧ SqT K H1 a xs ∧ ∀ p, H1 p = none → Q (.ref p) (upd H1 p (.tup xs.reverse))
theorem pe_revT {X : Cx} {e : Expr} {te : TE} {k : Nat} {p1 p2 p3 pos : Pos} (he : PE X e te) : PE X (.Subscript e (.Slice none none (some (.UnaryOp .USub (.Constant (.int 1) k p1) p2)) p3) pos) (tRevT X.K te) := by
  refine ⟨fun pins s σ H Q I h => ?_⟩
  refine Subscript_ (thn (he.run pins s σ H _ I h) fun v s1 ⟨x, H1, I1, r1, q1⟩ => ?_)
  obtain ⟨a, xs, ex, hx, q⟩ := q1
  subst ex
  cases r1
  have hst : PO X (some (.UnaryOp .USub (.Constant (.int 1) k p1) p2)) (tPart (tUn (rU fun i => .int (-i)) (tC (.int 1)))) := po_some (pe_un un_neg pe_int)
  refine wpAny_Slice (thn (po_none.run pins s1 σ H1 (fun o H2 => o = none ∧ H2 = H1) I1 ⟨rfl, rfl⟩) fun vl s2 ⟨l, H2, I2, pl, el, e2⟩ => ?_)
  subst el e2
  refine thn (po_none.run pins s2 σ H2 (fun o H3 => o = none ∧ H3 = H2) I2 ⟨rfl, rfl⟩) fun vu s3 ⟨u, H3, I3, pu, eu, e3⟩ => ?_
  subst eu e3
  refine thn (hst.run pins s3 σ H3 (fun o H4 => o = some (-1) ∧ H4 = H3) I3 ⟨1, rfl, -1, rfl, rfl, rfl⟩) fun vs s4 ⟨o, H4, I4, ps, eo, e4⟩ => ?_
  subst eo e4
  have I5 : Inv X pins σ H4 { s4 with heap := s4.heap.push { cls := .type "slice", data := .fields #[vl, vu, vs] } } := I4.kept (t' := s4.toks) fun b ob q => Heap.get?_push_of_some _ q
  obtain ⟨its, r, ht, hz⟩ := I5.tuple hx
  have hlen := r.length
  cases pl
  cases pu
  show wpAny (model X.prog X.w) X.A (subscriptTail e (.Slice none none (some (.UnaryOp .USub (.Constant (.int 1) k p1) p2)) p3) (.ref a) (.ref s4.heap.objs.size)) (EP X pins σ Q) X.xe { s4 with heap := s4.heap.push { cls := .type "slice", data := .fields #[.none, .none, vs] } }
  refine tail_any (ops := [.ref a, .ref s4.heap.objs.size]) ht.typeIs (PyProof.Rows.slot_tuple_getitem.lookup) ?_ (by with_unfolding_all rfl)
  refine getItem_tuple_rev ht (Heap.IsSliceOf.new _ .none .none vs) ps ?_ (by rw [List.size_toArray]; omega)
  refine ⟨.ref _, _, I5.laid (t' := s4.toks) (o := .tup xs.reverse) (fun b ob q => Heap.get?_push_of_some _ q) (Nat.le_refl _) ?_, rfl, q _ (I5.hok.fresh (Nat.le_refl _))⟩
  exact ⟨by rw [List.length_reverse]; omega, its.reverse, r.reverse, ⟨_, Heap.get?_push_size _ rfl, rfl, _, rfl⟩⟩
/-! ### t == () -/
def rEqNil (K : PySem.W.Frag) : R2 := fun x y H Q => ∃ a b xs, x = .ref a ∧ y = .ref b ∧ SqT K H a xs ∧ SqT K H b [] ∧ Q (.bl xs.isEmpty) H
theorem op_eqNil {X : Cx} (hu : X.A.units + 64 < cLine) : OpR X (compareOp .Eq) (rEqNil X.K) := by
  intro pins s σ H x y v u Q I rx ry h
  obtain ⟨a, b, xs, rfl, rfl, ha, hb, q⟩ := h
  cases rx
  cases ry
  obtain ⟨its, r1, p1, _⟩ := I.tuple ha
  obtain ⟨its2, r2, p2, _⟩ := I.tuple hb
  cases r2
  refine SeqAt.RcAt.tuples (e := fun _ => true) p1 p2 (by omega) (fun j h1 h2 => absurd h2 (by simp)) _ _ _ _ ⟨.bl _, H, I, rfl, ?_⟩
  have e : ((List.range (min its.toArray.size ([] : List Value).toArray.size)).all (fun _ => true) && its.toArray.size == ([] : List Value).toArray.size) = xs.isEmpty := by
    cases xs with
    | nil =>
      cases r1
      rfl
    | cons x xs =>
      cases r1
      rfl
  rw [e]
  exact q
end L2.Hx

/-! sorted of pairs of a text and an int; dict(zip(xs, ys)) of ints; x in t, t a tuple of data. -/
namespace L2.Sk
open PySem PySem.Spec PyProof.Rows Srt
section
variable {prog : Program} {w : World} {A : Around} {E : Value → Shared → Prop} {s : Shared}
theorem oneLt_str {a b : Str} {t u : Tok} {Q : Bool → Shared → Prop} (h : Q (decide (a.cps.toList < b.cps.toList)) s) : wpAny (model prog w) A (oneLt' true (.str a t) (.str b u)) Q E s := by
  rw [oneLt'_eq]
  simp only [if_true]
  refine wpAny_bind (wpAny_cRoomFor_byValue rfl ?_)
  refine wpAny_bind (wpAny_callSpecialIfBound?_slot (typeIs_str s a t) slot_str_lt (call_str_lt ?_))
  exact wpAny_truthy_bool h
def IsPairS (h : Heap) (v : Value) (x : Str) (y : Int) : Prop := ∃ a o t u n, v = .ref a ∧ h.get? a = some o ∧ o.cls = .type "tuple" ∧ o.data = .seq #[.str x t, .int y u] n
theorem IsPairS.keeps {h h' : Heap} {v : Value} {x : Str} {y : Int} (p : IsPairS h v x y) (k : ∀ b o, h.get? b = some o → o.cls = .type "tuple" → h'.get? b = some o) : IsPairS h' v x y := by
  obtain ⟨a, o, t, u, n, e, ho, hc, hd⟩ := p
  exact ⟨a, o, t, u, n, e, k _ _ ho hc, hc, hd⟩
theorem pair_tot {vs : List Value} (hp : ∀ v ∈ vs, ∃ x y, IsPairS s.heap v x y) : Tot prog w A s (tuples' true) (fun p => p.1 ∈ vs) := by
  intro p q hm hm'
  obtain ⟨x, y, a, o, t, u, n, e, ho, hc, hd⟩ := hp _ hm
  obtain ⟨x', y', a', o', t', u', n', e', ho', hc', hd'⟩ := hp _ hm'
  rw [e, e']
  refine ⟨if (x == x') = true then (if y = y' then false else decide (y < y')) else decide (x.cps.toList < x'.cps.toList), ?_⟩
  refine PySem.W.kat_lt ho hd ho' hd' ?_
  show PySem.W.KatLex prog w A true (decide (2 < 2)) _ [(.str x t, .str x' t'), (.int y u, .int y' u')] 0 s
  refine PySem.W.kat_cons (SeqAt.EqAt.str_str x t x' t' prog w _ _ ?_)
  refine PySem.W.kat_go (fun e1 => ?_) (fun e1 => ?_)
  · refine PySem.W.kat_yes (PySem.W.kat_cons (SeqAt.EqAt.int_int y u y' u' prog w _ _ ?_))
    refine PySem.W.kat_go (fun e2 => ?_) (fun e2 => ?_)
    · have ey : y = y' := by simpa using e2
      have e3 : (if (x == x') = true then (if y = y' then false else decide (y < y')) else decide (x.cps.toList < x'.cps.toList)) = false := by rw [if_pos e1, if_pos ey]
      exact PySem.W.kat_yes (PySem.W.kat_nil ⟨rfl, e3.symm⟩)
    · have ey : ¬ y = y' := by simpa using e2
      have e3 : (if (x == x') = true then (if y = y' then false else decide (y < y')) else decide (x.cps.toList < x'.cps.toList)) = decide (y < y') := by rw [if_pos e1, if_neg ey]
      refine PySem.W.kat_no (PySem.W.kat_one _ _ (PyProof.Rows.lt_int ?_))
      exact (show s = s ∧ decide (y < y') = (if (x == x') = true then (if y = y' then false else decide (y < y')) else decide (x.cps.toList < x'.cps.toList)) from ⟨rfl, e3.symm⟩)
  · have e3 : (if (x == x') = true then (if y = y' then false else decide (y < y')) else decide (x.cps.toList < x'.cps.toList)) = decide (x.cps.toList < x'.cps.toList) := by rw [if_neg (by rw [e1]; exact Bool.false_ne_true)]
    exact PySem.W.kat_no (oneLt_str ⟨rfl, e3.symm⟩)
theorem firsts_of {h : Heap} : ∀ {vs : List Value}, (∀ v ∈ vs, ∃ x y, IsPairS h v x y) → ∃ fs : List Value, PySem.W.KatTups h vs fs ∧ fs.length = vs.length ∧ ∀ f ∈ fs, ∃ x t, f = Value.str x t
  | [], _ => ⟨[], PySem.W.KatTups.nil, rfl, fun _ hm => by simp at hm⟩
  | v :: vs, hp => by
    obtain ⟨fs, h1, h2, h3⟩ := firsts_of (vs := vs) fun v' hm => hp v' (List.mem_cons_of_mem _ hm)
    obtain ⟨x, y, a, o, t, u, n, e, ho, hc, hd⟩ := hp v (List.mem_cons_self ..)
    subst e
    refine ⟨.str x t :: fs, PySem.W.KatTups.cons ho hc hd rfl h1, by rw [List.length_cons, List.length_cons, h2], fun f hm => ?_⟩
    rcases List.mem_cons.mp hm with rfl | hm
    · exact ⟨x, t, rfl⟩
    · exact h3 f hm
theorem pairs_sortable {a : Addr} {vs : List Value} (h0 : 0 < vs.length) (hp : ∀ v ∈ vs, ∃ x y, IsPairS s.heap v x y) (ha : ∀ o, s.heap.get? a = some o → o.cls ≠ .type "tuple") : Sortable prog w A s a vs := by
  intro h' keep
  have hp' : ∀ v ∈ vs, ∃ x y, IsPairS h' v x y := fun v hm => by
    obtain ⟨x, y, p⟩ := hp v hm
    exact ⟨x, y, p.keeps fun b o e c => keep b o (fun z => by subst z; exact ha o e c) e⟩
  obtain ⟨fs, h1, h2, h3⟩ := firsts_of hp'
  refine ⟨tuples' true, fun Q E hq => ?_, pair_tot hp'⟩
  refine PySem.W.kat_kind (T := .type "str") h1 (by omega) (fun f hm => ?_) (by rfl) ?_
  · obtain ⟨x, t, rfl⟩ := h3 f hm
    exact PySem.W.Looks.now
  · have e : (Value.type "str" != Value.type "tuple") = true := by first | decide +kernel | rfl | decide
    rw [e]
    exact hq
theorem sorted_pairs {l : Addr} {vs : List Value} {Q : Value → Shared → Prop} (hl : s.heap.IsList l vs.toArray) (hz : vs.length ≤ sizeLine) (hp : ∀ v ∈ vs, ∃ x y, IsPairS s.heap v x y)
    (h : ∀ (h' : Heap) (d : Addr) (out : List Value), out.Perm vs → (∀ b o, s.heap.get? b = some o → h'.get? b = some o) → s.heap.objs.size ≤ d → (∃ n, h'.get? d = some (seqObj "list" out.toArray n)) → Q (.ref d) { s with heap := h' }) :
    wpAny (model prog w) A (call (.builtin "sorted") [.ref l]) Q E s := by
  refine sorted_any hl hz (fun h2 h₁ a ha k => ?_) fun out ho => ?_
  · refine pairs_sortable (s := { s with heap := h₁ }) (by omega) (fun v hm => ?_) fun o e => ?_
    · obtain ⟨x, y, p⟩ := hp v hm
      exact ⟨x, y, p.keeps fun b o e _ => (k b o e).2⟩
    · have e' : some o = some (seqObj "list" vs.toArray 0) := e.symm.trans ha
      cases e'
      intro c
      exact absurd (Value.type.inj c) (by decide)
  · exact h _ _ out ho (fun b o e => sortedAll_old e) (Nat.le_succ _) (sortedAll_at s.heap vs out.toArray)
end
end L2.Sk
namespace L2
open PySem PySem.Spec PyProof.Rows
section
variable {X : Cx}
/-- sorted(xs), xs a list of pairs of a text and an int: the same in another order -/
def rSortedSP (K : PySem.W.Frag) : List V → Hp → VK → Prop := fun vs H Q => ∃ a xs, vs = [V.ref a] ∧ SqL K H a xs ∧ (∀ x ∈ xs, ∃ t i j, x = V.ref t ∧ SqT K H t [.str i, .int j]) ∧
  ∀ ys p, ys.Perm xs → H p = none → Q (.ref p) (upd H p (.lst ys))
theorem cr_sortedSP : CallR X (.builtin "sorted") (rSortedSP X.K) := by
  intro pins s σ H vs us Q I r h
  obtain ⟨a, xs, rfl, hs, hx, q⟩ := h
  obtain ⟨its, rv, hl, hz⟩ := I.list hs
  obtain ⟨u, rfl, ru⟩ := vals1 r
  obtain rfl : u = Value.ref a := ru
  obtain ⟨e1, e2⟩ := refs_back rv fun x m => by
    obtain ⟨t, _, _, e, _⟩ := hx x m
    exact ⟨t, e⟩
  refine Sk.sorted_pairs hl.isList (by rw [← rv.length]; exact hz) (fun v hv => ?_) fun h' d out hp k hd hn => ?_
  · obtain ⟨t, rfl⟩ := e2 v hv
    have hm : V.ref t ∈ xs := by rw [e1]; exact List.mem_map.mpr ⟨_, hv, rfl⟩
    obtain ⟨t', i, j, e, ht⟩ := hx _ hm
    cases e
    obtain ⟨its2, r2, ⟨o, ho, hc, n, hd⟩, _⟩ := I.tuple ht
    obtain ⟨u1, u2, rfl, ri, rj⟩ := vals2 r2
    obtain ⟨t1, rfl⟩ := ri
    obtain ⟨t2, rfl⟩ := rj
    exact ⟨i, j, t, o, t1, t2, n, rfl, ho, hc, hd⟩
  · have h3 : ∀ u ∈ out, ∃ a, u = Value.ref a := fun u hu => e2 u (hp.mem_iff.mp hu)
    obtain ⟨n, hn⟩ := hn
    refine ⟨.ref d, upd H d (.lst (out.map backV)), I.laid (t' := s.toks) k hd ⟨?_, out, n, vals_back h3, hn⟩, rfl, q _ d ?_ (I.hok.fresh hd)⟩
    · rw [List.length_map, hp.length_eq, ← rv.length]; exact hz
    · rw [e1]; exact hp.map backV
/-- sorted(xs), xs a list of pairs of ints that stand anywhere: a new list, sorted -/
def rSortedPT (K : PySem.W.Frag) : List V → Hp → VK → Prop := fun vs H Q => ∃ (a : Addr) (xs : List V) (k : V → Int × Int), vs = [V.ref a] ∧ SqL K H a xs ∧ (∀ x ∈ xs, ∃ t, x = V.ref t ∧ SqT K H t [.int (k x).1, .int (k x).2]) ∧
  ∀ ys p, SrtO.Srtd (ltP k) ys → ys.Perm xs → H p = none → Q (.ref p) (upd H p (.lst ys))
theorem cr_sortedPT : CallR X (.builtin "sorted") (rSortedPT X.K) := by
  intro pins s σ H vs us Q I r h
  obtain ⟨a, xs, k, rfl, hs, hx, q⟩ := h
  obtain ⟨its, rv, hl, hz⟩ := I.list hs
  obtain ⟨u, rfl, ru⟩ := vals1 r
  obtain rfl : u = Value.ref a := ru
  obtain ⟨e1, e2⟩ := refs_back rv fun x m => by
    obtain ⟨t, e, _⟩ := hx x m
    exact ⟨t, e⟩
  refine SrtO.sorted_pairsO (k := fun u => k (backV u)) hl.isList (by rw [← rv.length]; exact hz) (fun v hv => ?_) fun h' d out h1 h2 kp hd hn => ?_
  · obtain ⟨t, rfl⟩ := e2 v hv
    have hm : V.ref t ∈ xs := by rw [e1]; exact List.mem_map.mpr ⟨_, hv, rfl⟩
    obtain ⟨t', e, ht⟩ := hx _ hm
    cases e
    obtain ⟨its2, r2, ⟨o, ho, hc, n, hd⟩, _⟩ := I.tuple ht
    obtain ⟨u1, u2, rfl, ri, rj⟩ := vals2 r2
    obtain ⟨t1, rfl⟩ := ri
    obtain ⟨t2, rfl⟩ := rj
    exact ⟨t, o, t1, t2, n, rfl, ho, hc, hd⟩
  · have h3 : ∀ u ∈ out, ∃ a, u = Value.ref a := fun u hu => e2 u (h2.perm.mem_iff.mp hu)
    obtain ⟨n, hn⟩ := hn
    have hb : SrtO.Stb (ltP k) (out.map backV) xs := by
      rw [e1]
      exact SrtO.Stb.map (ltP_swo k) backV h2
    refine ⟨.ref d, upd H d (.lst (out.map backV)), I.laid (t' := s.toks) kp hd ⟨?_, out, n, vals_back h3, hn⟩, rfl, q _ d (SrtO.srtd_map h1) hb.perm (I.hok.fresh hd)⟩
    rw [hb.len]
    exact hz
theorem units65 {k : Nat} {A : Around} (r : Room k A) : A.units + 65 < cLine := by have := r.un; omega
/-- x in t, both any data, t a tuple -/
def rInT (K : PySem.W.Frag) : R2 := fun x y H Q => ∃ d ds, Dp K H x d ∧ Dp K H y (.tuple ds) ∧ SeqAt.shaped d = true ∧ SeqAt.shaped (.tuple ds) = true ∧ Q (.bl (ds.any fun z => PyData.eqv z d)) H
theorem op_inT (hu : X.A.units + 65 < cLine) : OpR X (compareOp .In) (rInT X.K) := by
  intro pins s σ H x y v u Q I rx ry h
  obtain ⟨d, ds, hd, he, sd, se, q⟩ := h
  obtain ⟨as, r1⟩ := Dp.reads I d x v hd rx
  obtain ⟨bs, r2⟩ := Dp.reads I (.tuple ds) y u he ry
  exact SeqAt.in_tuple_reads r2 r1 (SeqAt.canLay_of_shaped se) (SeqAt.canLay_of_shaped sd) (room_in_shaped sd hu) ⟨.bl _, H, I, rfl, q⟩
/-- d != {} -/
def rNeDct : R2 := fun x y H Q => ∃ a b ks, x = .ref a ∧ y = .ref b ∧ H a = some (.dK ks) ∧ H b = some (.dK []) ∧ Q (.bl (!ks.isEmpty)) H
theorem op_neDct (hu : X.A.units < cLine) : OpR X (compareOp .NotEq) rNeDct := by
  intro pins s σ H x y v u Q I rx ry h
  obtain ⟨a, b, ks, rfl, rfl, ea, eb, q⟩ := h
  obtain rfl : v = Value.ref a := rx
  obtain rfl : u = Value.ref b := ry
  obtain ⟨_, ya, va, ra, da⟩ := (show ObjOk X.prog X.w H s.heap a (.dK ks) from I.hok a _ ea)
  obtain ⟨_, yb, vb, rb, db⟩ := (show ObjOk X.prog X.w H s.heap b (.dK []) from I.hok b _ eb)
  have l1 := ra.length
  have l2 := rb.length
  refine PySem.W.keq_ne (knd := mixKind X.prog X.w) (r := true) ya yb da db hu (fun e => ?_) (fin_bl I q ?_)
  · have e0 : ks = [] := List.length_eq_zero_iff.mp (by rw [l1, e, ← l2]; rfl)
    subst e0
    exact hits_all rb ra fun p m => absurd m List.not_mem_nil
  · rw [← l1, ← l2]
    cases ks <;> rfl
/-- dict(zip(xs, ys)), two lists of ints -/
def rDictZip (K : PySem.W.Frag) : List V → Hp → VK → Prop := fun zs H Q => ∃ (a b : Addr) (ns us : List Int), zs = [.ref a, .ref b] ∧ SqL K H a (ns.map V.int) ∧ SqL K H b (us.map V.int) ∧ ns.length ≤ us.length ∧
  ∀ p, H p = none → Q (.ref p) (upd H p (.dK (mergeK [] ((ns.zip us).map fun q => ((.inl q.1 : Key), V.int q.2)))))
def tDictZip (K : PySem.W.Frag) (ta : TA) : TE := fun σ H Q => ta σ H fun zs H1 => rDictZip K zs H1 Q
theorem zip_rel {xs ys : List Value} {ns us : List Int} (r1 : Vals (ns.map V.int) xs) (r2 : Vals (us.map V.int) ys) : KV ((ns.zip us).map fun q => ((.inl q.1 : Key), V.int q.2)) ((ns.zip ys).map fun q => ((.inl q.1 : Key), q.2)) := by
  induction ns generalizing us xs ys with
  | nil => exact .nil
  | cons n ns ih =>
    cases us with
    | nil =>
      cases r2
      exact .nil
    | cons u us =>
      cases r1 with
      | cons a1 b1 =>
        cases r2 with
        | cons a2 b2 => exact .cons ⟨rfl, a2⟩ (ih b1 b2)
theorem pe_dictZip {e e2 : Expr} {ta : TA} {p pz pz2 pos : Pos} (hc : X.calm = true) (hg : Gl X "dict") (hm : X.mg "dict" = none) (hgz : Gl X "zip") (hmz : X.mg "zip" = none) (ha : PA X [e, e2] ta) (hv : bootBuiltins "dict" = some (.type "dict") := by rfl)
    (hs : starEach [e, e2] X.env = (false, eval e X.env) :: starEach [e2] X.env := by rfl) (hpl : (backTo pz2 (starEach [e2] X.env)).any (·.1) = false := by rfl)
    (hs1 : starEach [.Call (.Name "zip" pz) [e, e2] [] pz2] X.env = (false, eval (.Call (.Name "zip" pz) [e, e2] [] pz2) X.env) :: starEach [] X.env := by rfl) :
    PE X (.Call (.Name "dict" p) [.Call (.Name "zip" pz) [e, e2] [] pz2] [] pos) (tDictZip X.K ta) := by
  refine ⟨fun pins s σ H Q I hq => ?_⟩
  refine wpAny_Call_Name_kw (ld_blt I hg hm hv ?_)
  refine PyProof.Rows.callWith_type1 ?_ hs1 rfl
  rw [hs1]
  show wpAny _ _ (spliced ((false, eval (.Call (.Name "zip" pz) [e, e2] [] pz2) X.env) :: backTo pos (starEach [] X.env))) _ _ s
  refine Calls.spliced_cons ?_
  refine Call_ (ld_blt I hgz hmz PyProof.Rows.boot_zip (PyProof.Rows.callWith_type1 (thn (ha.run pz2 pins s σ H _ I hq) fun us s1 ⟨vs, H1, I1, r1, q1⟩ => ?_) hs hpl))
  obtain ⟨a, b, ns, ms, ex, hqx, hqy, hlen, q⟩ := q1
  subst ex
  cases r1 with
  | cons r rr =>
    cases rr with
    | cons r' rr =>
      cases rr
      cases r
      cases r'
      obtain ⟨its, rv, p1, z1⟩ := I1.list hqx
      obtain ⟨its2, rv2, p2, _⟩ := I1.list hqy
      have la : a < s1.heap.objs.size := p1.lt
      have lb : b < s1.heap.objs.size := p2.lt
      have n1 := rv.length
      have n2 := rv2.length
      rw [List.length_map] at n1 n2
      refine call_zip_2 p1.isList p2.isList fun h' hz hTI hTO h1 h2 hsz hk => ?_
      refine Calls.spliced_nil ?_
      have I2 : Inv X pins σ H1 { s1 with heap := h' } := I1.kept (t' := s1.toks) hk
      have ml : min its.toArray.size its2.toArray.size = ns.length := by rw [List.size_toArray, List.size_toArray]; omega
      refine PySem.call_dict_pairs (s := { s1 with heap := h' }) (knd := mixKind X.prog X.w) (kvs := (ns.zip its2).map fun q => ((.inl q.1 : Key), q.2)) (PairArg.zip (s1.heap.objs.size + 4) (s1.heap.objs.size + 2) (s1.heap.objs.size + 3) s1.heap.objs.size (s1.heap.objs.size + 1) a b (PySem.W.ktu_apart s1.heap.objs.size a b la lb) its.toArray its2.toArray)
        (I2.ok.hd hc) ⟨hz, hTI, ⟨_, _, hTO⟩, h1, h2, p1.isList.at fun o e => hk _ o e, p2.isList.at fun o e => hk _ o e⟩ ⟨by rw [List.length_map, List.length_zip, ml]; omega, fun i key v hv => ?_⟩ (by rw [ml]; rw [List.length_map] at z1; exact z1) fun h2' tk hd' hk2 => ?_
      · obtain ⟨e1, e2⟩ := hv
        rw [List.getElem?_toArray] at e1 e2
        have hi : i < ns.length := by
          have := (List.getElem?_eq_some_iff.mp e1).1
          omega
        obtain ⟨u, f1, f2⟩ := rv.get (i := i) (x := .int ns[i]) (by rw [List.getElem?_map, List.getElem?_eq_getElem hi]; rfl)
        rw [e1] at f1
        cases f1
        obtain ⟨t, rfl⟩ := f2
        refine ⟨.inl ns[i], ?_, keyIs_int _ t⟩
        have ez : (ns.zip its2)[i]? = some (ns[i], v) := List.getElem?_zip_eq_some.mpr ⟨List.getElem?_eq_getElem hi, e2⟩
        rw [List.getElem?_map, ez]
        rfl
      · have big : s1.heap.objs.size ≤ h'.objs.size := by rw [hsz]; exact Nat.le_add_right _ _
        have hm0 : (h'.objs.size == sysModules) = false := beq_eq_false_iff_ne.mpr (Nat.ne_of_gt I2.big)
        have rel := zip_rel rv rv2
        have hlen2 : (mergeK [] ((ns.zip ms).map fun q => ((.inl q.1 : Key), V.int q.2))).length ≤ sizeLine := by
          refine Nat.le_trans (length_mergeK _ []) ?_
          rw [List.length_nil, Nat.zero_add, List.length_map, List.length_zip]
          rw [List.length_map] at z1
          omega
        refine ⟨.ref h'.objs.size, upd H1 h'.objs.size (.dK (mergeK [] ((ns.zip ms).map fun q => ((.inl q.1 : Key), V.int q.2)))), I1.laid (t' := tk) (fun c o e => ?_) big (show ObjOk X.prog X.w _ _ _ (.dK _) from ⟨hlen2, hm0, merged [] _, KV.merge rel .nil, hd'⟩), rfl, q _ (I1.hok.fresh big)⟩
        have lc := Heap.lt_size e
        refine hk2 c o (fun m => ?_) (hk c o e)
        rcases List.mem_cons.mp m with rfl | m
        · exact Nat.lt_irrefl _ (Nat.lt_of_le_of_lt (Nat.le_add_right _ _) lc)
        rcases List.mem_cons.mp m with rfl | m
        · exact Nat.lt_irrefl _ (Nat.lt_of_le_of_lt (Nat.le_add_right _ _) lc)
        rcases List.mem_cons.mp m with rfl | m
        · exact Nat.lt_irrefl _ lc
        · rw [List.mem_singleton.mp m] at lc
          exact Nat.lt_irrefl _ (Nat.lt_of_le_of_lt (Nat.le_add_right _ _) lc)
end
end L2

/-! The text of the law of lost cells and joined clauses: its defs by their places. -/
namespace L2.Hx
open PySem PySem.Spec PyProof.Rows
abbrev pw : Program := PySem.Challenge.pw_heldapart_k08_whole_lost_cells_and_claus
def top (i : Nat) : Stmt := pw.main.body.getD i (.Pass ⟨0, 0, 0, 0⟩)
abbrev s_holds : Stmt := top 1
theorem sc_holds : FnScope ["saying", "store", "heap", "cells"] ["saying", "store", "heap"] (defScope s_holds) := ⟨rfl, rfl, rfl, by decide +kernel, rfl, by decide +kernel, by decide +kernel⟩
abbrev s_part_of : Stmt := top 2
theorem sc_part_of : FnScope ["clause", "store", "heap", "cells", "took", "cell"] ["clause", "store", "heap"] (defScope s_part_of) := ⟨rfl, rfl, rfl, by decide +kernel, rfl, by decide +kernel, by decide +kernel⟩
abbrev s_values_of : Stmt := top 3
theorem sc_values_of : FnScope ["store", "values"] ["store"] (defScope s_values_of) := ⟨rfl, rfl, rfl, by decide +kernel, rfl, by decide +kernel, by decide +kernel⟩
abbrev s_looks_hold : Stmt := top 4
theorem sc_looks_hold : FnScope ["looks", "values", "word", "left", "right"] ["looks", "values"] (defScope s_looks_hold) := ⟨rfl, rfl, rfl, by decide +kernel, rfl, by decide +kernel, by decide +kernel⟩
abbrev s_takes_all : Stmt := top 5
theorem sc_takes_all : FnScope ["saying", "values", "leads", "singles", "clause", "took"] ["saying", "values", "leads", "singles"] (defScope s_takes_all) := ⟨rfl, rfl, rfl, by decide +kernel, rfl, by decide +kernel, by decide +kernel⟩
abbrev s_taken : Stmt := top 6
theorem sc_taken : FnScope ["clause", "values", "leads", "singles", "looks", "parts", "took", "word", "left", "right", "at", "end"] ["clause", "values", "leads", "singles"] (defScope s_taken) := ⟨rfl, rfl, rfl, by decide +kernel, rfl, by decide +kernel, by decide +kernel⟩
abbrev s_takes_list : Stmt := top 7
theorem sc_takes_list : FnScope ["at", "end", "leads", "took"] ["at", "end", "leads", "took"] (defScope s_takes_list) := ⟨rfl, rfl, rfl, by decide +kernel, rfl, by decide +kernel, by decide +kernel⟩
abbrev s_lost : Stmt := top 8
theorem sc_lost : FnScope ["store", "heap", "cells", "reached", "_", "value", "at", "address"] ["store", "heap"] (defScope s_lost) := ⟨rfl, rfl, rfl, by decide +kernel, rfl, by decide +kernel, by decide +kernel⟩
abbrev s_l_deck : Stmt := top 10
theorem sc_l_deck : FnScope ["script", "deck", "cell", "whole"] ["script"] (defScope s_l_deck) := ⟨rfl, rfl, rfl, by decide +kernel, rfl, by decide +kernel, by decide +kernel⟩
abbrev s_l_draw : Stmt := top 11
theorem sc_l_draw : FnScope ["deck", "many", "whole", "number"] ["deck", "many"] (defScope s_l_draw) := ⟨rfl, rfl, rfl, by decide +kernel, rfl, by decide +kernel, by decide +kernel⟩
abbrev s_l_pick : Stmt := top 12
theorem sc_l_pick : FnScope ["deck", "items"] ["deck", "items"] (defScope s_l_pick) := ⟨rfl, rfl, rfl, by decide +kernel, rfl, by decide +kernel, by decide +kernel⟩
abbrev s_l_shuffled : Stmt := top 13
theorem sc_l_shuffled : FnScope ["deck", "items", "left", "rest"] ["deck", "items"] (defScope s_l_shuffled) := ⟨rfl, rfl, rfl, by decide +kernel, rfl, by decide +kernel, by decide +kernel⟩
abbrev s_l_look : Stmt := top 14
theorem sc_l_look : FnScope ["deck", "terms"] ["deck", "terms"] (defScope s_l_look) := ⟨rfl, rfl, rfl, by decide +kernel, rfl, by decide +kernel, by decide +kernel⟩
abbrev s_l_part : Stmt := top 15
theorem sc_l_part : FnScope ["deck", "terms"] ["deck", "terms"] (defScope s_l_part) := ⟨rfl, rfl, rfl, by decide +kernel, rfl, by decide +kernel, by decide +kernel⟩
abbrev s_l_clause : Stmt := top 16
theorem sc_l_clause : FnScope ["deck", "terms", "looks", "parts", "first", "turn"] ["deck", "terms", "looks", "parts"] (defScope s_l_clause) := ⟨rfl, rfl, rfl, by decide +kernel, rfl, by decide +kernel, by decide +kernel⟩
abbrev s_l_worth : Stmt := top 17
theorem sc_l_worth : FnScope ["store", "term"] ["store", "term"] (defScope s_l_worth) := ⟨rfl, rfl, rfl, by decide +kernel, rfl, by decide +kernel, by decide +kernel⟩
abbrev s_l_looks_true : Stmt := top 18
theorem sc_l_looks_true : FnScope ["clause", "store", "word", "one", "other"] ["clause", "store"] (defScope s_l_looks_true) := ⟨rfl, rfl, rfl, by decide +kernel, rfl, by decide +kernel, by decide +kernel⟩
abbrev s_l_road : Stmt := top 19
theorem sc_l_road : FnScope ["part", "store", "heap", "at", "end", "cells", "road"] ["part", "store", "heap"] (defScope s_l_road) := ⟨rfl, rfl, rfl, by decide +kernel, rfl, by decide +kernel, by decide +kernel⟩
abbrev s_l_roads : Stmt := top 20
theorem sc_l_roads : FnScope ["clause", "store", "heap", "roads", "seen", "part", "road", "at"] ["clause", "store", "heap"] (defScope s_l_roads) := ⟨rfl, rfl, rfl, by decide +kernel, rfl, by decide +kernel, by decide +kernel⟩
abbrev s_l_is_so : Stmt := top 21
theorem sc_l_is_so : FnScope ["clause", "store", "heap", "roads", "road"] ["clause", "store", "heap"] (defScope s_l_is_so) := ⟨rfl, rfl, rfl, by decide +kernel, rfl, by decide +kernel, by decide +kernel⟩
abbrev s_l_laid_part : Stmt := top 22
theorem sc_l_laid_part : FnScope ["deck", "part", "store", "cells", "at", "end", "turn", "further"] ["deck", "part", "store", "cells"] (defScope s_l_laid_part) := ⟨rfl, rfl, rfl, by decide +kernel, rfl, by decide +kernel, by decide +kernel⟩
abbrev s_l_world : Stmt := top 23
theorem sc_l_world : FnScope ["deck", "names", "clause", "store", "name", "cells", "part", "way"] ["deck", "names", "clause"] (defScope s_l_world) := ⟨rfl, rfl, rfl, by decide +kernel, rfl, by decide +kernel, by decide +kernel⟩
abbrev s_l_due : Stmt := top 24
theorem sc_l_due : FnScope ["store", "heap", "cells", "seen", "name", "at", "value"] ["store", "heap"] (defScope s_l_due) := ⟨rfl, rfl, rfl, by decide +kernel, rfl, by decide +kernel, by decide +kernel⟩
abbrev s_l_heap : Stmt := top 25
theorem sc_l_heap : FnScope ["deck", "ats", "at"] ["deck"] (defScope s_l_heap) := ⟨rfl, rfl, rfl, by decide +kernel, rfl, by decide +kernel, by decide +kernel⟩
abbrev s_l_called : Stmt := top 26
theorem sc_l_called : FnScope ["deck", "store", "heap", "values", "first", "second", "own", "fresh", "spot", "other", "cells", "at", "value", "name"] ["deck", "store", "heap"] (defScope s_l_called) := ⟨rfl, rfl, rfl, by decide +kernel, rfl, by decide +kernel, by decide +kernel⟩
abbrev s_l_is_lost_right : Stmt := top 27
theorem sc_l_is_lost_right : FnScope ["deck", "store", "heap", "is_named", "known", "due", "heard", "named", "cells", "other", "at", "wider", "gone", "left", "cell"] ["deck", "store", "heap", "is_named"] (defScope s_l_is_lost_right) := ⟨rfl, rfl, rfl, by decide +kernel, rfl, by decide +kernel, by decide +kernel⟩
abbrev s_l_whole_part : Stmt := top 28
theorem sc_l_whole_part : FnScope ["clause", "store", "heap", "roads", "taken_v", "road", "cell"] ["clause", "store", "heap"] (defScope s_l_whole_part) := ⟨rfl, rfl, rfl, by decide +kernel, rfl, by decide +kernel, by decide +kernel⟩
abbrev s_l_is_joined_right : Stmt := top 29
theorem sc_l_is_joined_right : FnScope ["deck", "names", "one", "other", "both", "store", "heap", "first", "second", "due", "cell", "seen"] ["deck"] (defScope s_l_is_joined_right) := ⟨rfl, rfl, rfl, by decide +kernel, rfl, by decide +kernel, by decide +kernel⟩
abbrev s_law : Stmt := top 30
theorem sc_law : FnScope ["script", "deck", "turn", "names", "heap", "store", "name"] ["script"] (defScope s_law) := ⟨rfl, rfl, rfl, by decide +kernel, rfl, by decide +kernel, by decide +kernel⟩
structure Txt (K : PySem.W.Frag) (mg : Str → Option Value) : Prop where
  b_abs : mg "abs" = none
  b_dict : mg "dict" = none
  b_int : mg "int" = none
  b_isinstance : mg "isinstance" = none
  b_len : mg "len" = none
  b_list : mg "list" = none
  b_max : mg "max" = none
  b_range : mg "range" = none
  b_repr : mg "repr" = none
  b_sorted : mg "sorted" = none
  b_str : mg "str" = none
  b_sum : mg "sum" = none
  b_tuple : mg "tuple" = none
  b_zip : mg "zip" = none
  d_holds : ∃ f fd, Src K mg "holds" s_holds ["saying", "store", "heap"] f fd
  d_part_of : ∃ f fd, Src K mg "part_of" s_part_of ["clause", "store", "heap"] f fd
  d_values_of : ∃ f fd, Src K mg "values_of" s_values_of ["store"] f fd
  d_looks_hold : ∃ f fd, Src K mg "looks_hold" s_looks_hold ["looks", "values"] f fd
  d_takes_all : ∃ f fd, Src K mg "takes_all" s_takes_all ["saying", "values", "leads", "singles"] f fd
  d_taken : ∃ f fd, Src K mg "taken" s_taken ["clause", "values", "leads", "singles"] f fd
  d_takes_list : ∃ f fd, Src K mg "takes_list" s_takes_list ["at", "end", "leads", "took"] f fd
  d_lost : ∃ f fd, Src K mg "lost" s_lost ["store", "heap"] f fd
  d_l_deck : ∃ f fd, Src K mg "_law_deck" s_l_deck ["script"] f fd
  d_l_draw : ∃ f fd, Src K mg "_law_draw" s_l_draw ["deck", "many"] f fd
  d_l_pick : ∃ f fd, Src K mg "_law_pick" s_l_pick ["deck", "items"] f fd
  d_l_shuffled : ∃ f fd, Src K mg "_law_shuffled" s_l_shuffled ["deck", "items"] f fd
  d_l_look : ∃ f fd, Src K mg "_law_look" s_l_look ["deck", "terms"] f fd
  d_l_part : ∃ f fd, Src K mg "_law_part" s_l_part ["deck", "terms"] f fd
  d_l_clause : ∃ f fd, Src K mg "_law_clause" s_l_clause ["deck", "terms", "looks", "parts"] f fd
  d_l_worth : ∃ f fd, Src K mg "_law_worth" s_l_worth ["store", "term"] f fd
  d_l_looks_true : ∃ f fd, Src K mg "_law_looks_true" s_l_looks_true ["clause", "store"] f fd
  d_l_road : ∃ f fd, Src K mg "_law_road" s_l_road ["part", "store", "heap"] f fd
  d_l_roads : ∃ f fd, Src K mg "_law_roads" s_l_roads ["clause", "store", "heap"] f fd
  d_l_laid_part : ∃ f fd, Src K mg "_law_laid_part" s_l_laid_part ["deck", "part", "store", "cells"] f fd
  d_l_world : ∃ f fd, Src K mg "_law_world" s_l_world ["deck", "names", "clause"] f fd
  d_l_due : ∃ f fd, Src K mg "_law_due" s_l_due ["store", "heap"] f fd
  d_l_heap : ∃ f fd, Src K mg "_law_heap" s_l_heap ["deck"] f fd
  d_l_called : ∃ f fd, Src K mg "_law_called" s_l_called ["deck", "store", "heap"] f fd
  d_l_is_lost_right : ∃ f fd, Src K mg "_law_is_lost_right" s_l_is_lost_right ["deck", "store", "heap", "is_named"] f fd
  d_l_whole_part : ∃ f fd, Src K mg "_law_whole_part" s_l_whole_part ["clause", "store", "heap"] f fd
  d_l_is_joined_right : ∃ f fd, Src K mg "_law_is_joined_right" s_l_is_joined_right ["deck"] f fd
  d_law : ∃ f fd, Src K mg "law" s_law ["script"] f fd
section
variable {X : Cx}
theorem pe_cI {x : Str} {i : Int} {pos : Pos} (h : ∃ t, X.mg x = some (.int i t)) (hg : Gl X x := by rfl) (hd : (x == ("__debug__" : Str)) = false := by decide) : PE X (.Name x pos) (tC (.int i)) := let ⟨t, h⟩ := h; pe_glob hg h ⟨t, rfl⟩ hd
theorem pe_cS {x y : Str} {pos : Pos} (h : ∃ t, X.mg x = some (.str y t)) (hg : Gl X x := by rfl) (hd : (x == ("__debug__" : Str)) = false := by decide) : PE X (.Name x pos) (tC (.str y)) := let ⟨t, h⟩ := h; pe_glob hg h ⟨t, rfl⟩ hd
theorem pe_cR {x : Str} {a : Addr} {pos : Pos} (h : X.mg x = some (.ref a)) (hg : Gl X x := by rfl) (hd : (x == ("__debug__" : Str)) = false := by decide) : PE X (.Name x pos) (tC (.ref a)) := pe_glob hg h rfl hd
theorem pe_bT {x : Str} {n : String} {pos : Pos} (h : X.mg x = none) (hv : bootBuiltins x = some (.type n)) (hg : Gl X x := by rfl) (hn : x ≠ "__name__" := by decide) (hd : (x == ("__debug__" : Str)) = false := by decide) : PE X (.Name x pos) (tC (.ty n)) := pe_bltn hg h hv rfl hn hd
end
end L2.Hx

/-! The deck: a draw, a pick. -/
namespace L2.Hx
open PySem PySem.Spec PyProof.Rows
theorem dget_great {H : Hp} {p l : Addr} {m t : Int} (h : H p = some (.dK (deckD l m t))) : DGet H p (.str "great") (some (.ref l)) := by
  rw [← deck_great l m t]
  exact DGet.k (k := kGreat) h
theorem dget_mixed {H : Hp} {p l : Addr} {m t : Int} (h : H p = some (.dK (deckD l m t))) : DGet H p (.str "mixed") (some (.int m)) := by
  rw [← deck_mixed l m t]
  exact DGet.k (k := kMixed) h
theorem dget_turns {H : Hp} {p l : Addr} {m t : Int} (h : H p = some (.dK (deckD l m t))) : DGet H p (.str "turns") (some (.int t)) := by
  rw [← deck_turns l m t]
  exact DGet.k (k := kTurns) h
theorem dput_turns {H : Hp} {p l : Addr} {m t u : Int} (h : H p = some (.dK (deckD l m t))) : DPut H p (.str "turns") (.int u) (upd H p (.dK (deckD l m u))) := by
  rw [← deck_put_turns l m t u]
  exact DPut.k (k := kTurns) h (by show 3 < sizeLine; decide)
theorem dput_mixed {H : Hp} {p l : Addr} {m t u : Int} (h : H p = some (.dK (deckD l m t))) : DPut H p (.str "mixed") (.int u) (upd H p (.dK (deckD l u t))) := by
  rw [← deck_put_mixed l m t u]
  exact DPut.k (k := kMixed) h (by show 3 < sizeLine; decide)
theorem dp_ints {K : PySem.W.Frag} {H : Hp} : ∀ ns : List Int, DpAll K H (ns.map V.int) (ns.map PyData.int)
  | [] => .nil
  | n :: ns => .cons (.int n) (dp_ints ns)
theorem shaped_ints (ns : List Int) : SeqAt.shaped (.list (ns.map PyData.int)) = true := by
  have h1 : ∀ ns : List Int, PyData.canLayAll0 (ns.map PyData.int) = true := fun ns => by
    induction ns with
    | nil => rfl
    | cons n ns ih => simpa [PyData.canLayAll0, PyData.canLay0] using ih
  have h2 : ∀ ns : List Int, PyData.depthAll (ns.map PyData.int) ≤ 1 := fun ns => by
    induction ns with
    | nil => simp [PyData.depthAll]
    | cons n ns ih =>
      simp only [List.map_cons, PyData.depthAll, PyData.depth]
      omega
  have a := h1 ns
  have b := h2 ns
  unfold SeqAt.shaped
  rw [Bool.and_eq_true]
  refine ⟨by simpa [PyData.canLay0] using a, decide_eq_true ?_⟩
  simp only [PyData.depth]
  omega
theorem eqv_nil (ns : List Int) : PyData.eqv (.list (ns.map PyData.int)) (.list []) = decide (ns = []) := by
  cases ns <;> simp [PyData.eqv, PyData.eqvAll]
theorem Wd.gset {p l : Addr} {G H : Hp} (W : Wd p l G H) (ns : List Int) (hz : ns.length ≤ 63) : Ext p l G H G (upd H l (.lst (ns.map V.int))) := by
  have ne := W.ne
  refine ⟨⟨fun b u q => ?_, W.gp, W.gl, ?_, ⟨ns, hz, upd_same⟩⟩, Same.refl G, fun b u _ n2 q => by rw [upd_ne n2]; exact q, fun _ _ _ g => g⟩
  · rw [upd_ne (ne_of_none q W.gl)]
    exact W.same b u q
  · obtain ⟨m, t, m0, m1, e⟩ := W.dk
    exact ⟨m, t, m0, m1, by rw [upd_ne ne]; exact e⟩
theorem Wd.dset {p l : Addr} {G H : Hp} (W : Wd p l G H) {m t : Int} (m0 : 0 ≤ m) (m1 : m < 4294967291) : Ext p l G H G (upd H p (.dK (deckD l m t))) := by
  have ne := W.ne
  refine ⟨⟨fun b u q => ?_, W.gp, W.gl, ⟨m, t, m0, m1, upd_same⟩, ?_⟩, Same.refl G, fun b u n1 _ q => by rw [upd_ne n1]; exact q, fun _ _ _ g => g⟩
  · rw [upd_ne (ne_of_none q W.gp)]
    exact W.same b u q
  · obtain ⟨ns, z, e⟩ := W.ls
    exact ⟨ns, z, by rw [upd_ne ne.symm]; exact e⟩

def spDraw : Sp := fun vs H Q _ => ∃ (p l : Addr) (G : Hp) (many : Int), vs = [.ref p, .int many] ∧ 1 ≤ many ∧ many < 1000000 ∧ Wd p l G H ∧ ∀ (r : Int) (H' : Hp), 0 ≤ r → r < many → Ext p l G H G H' → Q (.int r) H'
section
variable {P : Program} {w : World} {K : PySem.W.Frag} {mg : Str → Option Value} {base : Heap}
theorem D_draw (T : Txt K mg) : Df P w K mg base 1 "_law_draw" ["deck", "many"] spDraw := by
  obtain ⟨f, fd, S⟩ := T.d_l_draw
  refine Df.mk' (k := 0) S sc_l_draw (fun vs H Q E h => ?_) (fun cdv A outer s H vs Q E hgd hr h => ?_)
  · obtain ⟨p, l, G, many, rfl, _⟩ := h
    rfl
  · obtain ⟨p, l, G, many, rfl, h1, h2, W, k⟩ := h
    have hu := hu_of hr
    refine ⟨_, (pss_cons (ps_if (pt_cmpR op_lt (pv 1) pe_int (nomark _)) (pss_one (ps_ret pe_int)) pss_nil)
      (pss_cons (ps_if (pt_cmpR (op_neD hr.units) (pe_dget hu (pv 0) pe_str (fun _ _ => rfl)) (pe_lst pa_nil) (nomark _)) (pss_cons (ps_set (i := 2) sc_l_draw.nd rfl (.inl rfl) (pe_bm0 PySem.F.plainAttrs_list PySem.F.slot_list_pop PySem.F.type_list_pop mt_pop (pe_dget hu (pv 0) pe_str (fun _ _ => rfl))))
      (pss_cons (ps_if (pt_cmpR op_ge (pv 2) (pv 1) (nomark _)) (pss_one (ps_expr (pe_bm PySem.F.plainAttrs_list PySem.F.slot_list_append PySem.F.type_list_append mt_append (pe_dget hu (pv 0) pe_str (fun _ _ => rfl)) (pa_cons (pe_op op_fdivN (pv 2) (pv 1)) pa_nil)))) pss_nil)
      (pss_one (ps_ret (pe_op op_mod (pe_callTy call_int1 (by rfl) T.b_int (by decide +kernel) (pa_cons (pv 2) pa_nil)) (pv 1)))))) pss_nil)
      (pss_cons (ps_dput hu (pv 0) pe_str (pe_op op_add (pe_dget hu (pv 0) pe_str (fun _ _ => rfl)) pe_int) rfl)
      (pss_cons (ps_set (i := 3) sc_l_draw.nd rfl (.inl rfl) (pe_op op_mod (pe_callTy call_int1 (by rfl) T.b_int (by decide +kernel) (pa_cons (pe_op op_add (pe_dget hu (pv 0) pe_str (fun _ _ => rfl)) (pe_op op_mul pe_int (pe_dget hu (pv 0) pe_str (fun _ _ => rfl)))) pa_nil)) pe_int))
      (pss_cons (ps_set (i := 3) sc_l_draw.nd rfl (.inl rfl) (pe_op op_mod (pe_callTy call_int1 (by rfl) T.b_int (by decide +kernel) (pa_cons (pe_op op_add (pe_op op_add (pe_op op_mul (pv 3) (pv 3)) (pe_op op_mul pe_int (pe_dget hu (pv 0) pe_str (fun _ _ => rfl)))) pe_int) pa_nil)) pe_int))
      (pss_cons (ps_set (i := 3) sc_l_draw.nd rfl (.inl rfl) (pe_op op_mod (pe_callTy call_int1 (by rfl) T.b_int (by decide +kernel) (pa_cons (pe_op op_add (pe_op op_mul (pv 3) (pv 3)) (pe_op op_mul (pe_dget hu (pv 0) pe_str (fun _ _ => rfl)) pe_int)) pa_nil)) pe_int))
      (pss_one (ps_ret (pe_op op_mod (pe_callTy call_int1 (by rfl) T.b_int (by decide +kernel) (pa_cons (pe_op op_fdiv (pv 3) pe_int) pa_nil)) (pv 1)))))))))), ?_⟩
    refine ⟨_, rfl, _, _, rfl, rfl, _, rfl, ite2 (fun hc => ?_) (fun hc => ?_)⟩
    · exact k 0 H (Int.le_refl _) (by omega) (Ext.refl W)
    have hm : 2 ≤ many := by
      have := of_decide_eq_false (Bool.eq_false_iff.mpr hc)
      omega
    obtain ⟨m, t, m0, m1, hd⟩ := W.dk
    obtain ⟨ns, hz, hl⟩ := W.ls
    refine ⟨_, rfl, p, _, rfl, dget_great hd, Nat.zero_le _, fun q hq => ?_⟩
    have E1 := W.tmp (o := .lst []) hq
    have hq_p := W.np hq
    have hq_l := W.nl hq
    have hd1 : upd H q (.lst []) p = some (.dK (deckD l m t)) := by rw [upd_ne hq_p.symm]; exact hd
    have hl1 : upd H q (.lst []) l = some (.lst (ns.map V.int)) := by rw [upd_ne hq_l.symm]; exact hl
    refine ⟨.list (ns.map PyData.int), .list [], .lst (SqL.of hl1) (dp_ints ns), .lst (SqL.of upd_same) .nil, shaped_ints ns, rfl, _, rfl, ?_⟩
    rw [eqv_nil]
    refine ite2 (fun hc2 => ?_) (fun hc2 => ?_)
    · -- the great ones
      have hne : ns ≠ [] := by simpa using hc2
      obtain ⟨y, hy⟩ : ∃ y, ns[ns.length - 1]? = some y := by
        cases e : ns[ns.length - 1]? with
        | some y => exact ⟨y, rfl⟩
        | none =>
          have := List.getElem?_eq_none_iff.mp e
          have : 0 < ns.length := List.length_pos_iff.mpr hne
          omega
      have hdl : (ns.map V.int).dropLast = ns.dropLast.map V.int := by rw [List.map_dropLast]
      have hzl : ns.dropLast.length = ns.length - 1 := by simp
      have hpos : 0 < ns.length := List.length_pos_iff.mpr hne
      refine ⟨_, rfl, p, _, rfl, dget_great hd1, .inl ⟨rfl, _, SqL.of hl1⟩, l, ns.map V.int, .int y, rfl, rfl, hl1, by rw [List.length_map, List.getElem?_map, hy]; rfl, ?_⟩
      rw [hdl]
      have E2 := E1.trans W (E1.w.gset ns.dropLast (by omega))
      generalize hH2 : upd (upd H q (.lst [])) l (.lst (ns.dropLast.map V.int)) = H2 at E2 ⊢
      have hl2 : H2 l = some (.lst (ns.dropLast.map V.int)) := by rw [← hH2, upd_same]
      have hd2 : H2 p = some (.dK (deckD l m t)) := by rw [← hH2, upd_ne W.ne]; exact hd1
      refine ⟨_, rfl, _, rfl, _, _, rfl, rfl, _, rfl, ite2 (fun hc3 => ?_) (fun hc3 => ?_)⟩
      · refine ⟨_, rfl, p, _, rfl, dget_great hd2, .inl ⟨rfl, _, SqL.of hl2⟩, _, rfl, _, rfl, _, _, rfl, rfl, ⟨by omega, by omega⟩, l, _, _, rfl, rfl, hl2, by rw [List.length_map, hzl]; exact small1000 (by omega), ?_⟩
        have E3 := E2.trans W (E2.w.gset (ns.dropLast ++ [y.fdiv many]) (by rw [List.length_append, hzl, List.length_singleton]; omega))
        rw [show (ns.dropLast.map V.int ++ [V.int (y.fdiv many)]) = (ns.dropLast ++ [y.fdiv many]).map V.int by rw [List.map_append]; rfl]
        refine ⟨_, rfl, .inl ⟨_, rfl, _, rfl, _, _, rfl, rfl, by show (0 : Int) < many; omega, ?_⟩⟩
        exact k _ _ (Int.emod_nonneg _ (by omega)) (Int.emod_lt_of_pos _ (by omega)) E3
      · refine ⟨_, rfl, .inl ⟨_, rfl, _, rfl, _, _, rfl, rfl, by show (0 : Int) < many; omega, ?_⟩⟩
        exact k _ _ (Int.emod_nonneg _ (by omega)) (Int.emod_lt_of_pos _ (by omega)) E2
    · -- the mixed ones
      refine ⟨_, rfl, p, _, rfl, dget_turns hd1, _, _, rfl, rfl, _, rfl, p, _, rfl, dput_turns hd1, ?_⟩
      have E2 := E1.trans W (E1.w.dset (t := t + 1) m0 m1)
      generalize hH2 : upd (upd H q (.lst [])) p (.dK (deckD l m (t + 1))) = H2 at E2 ⊢
      have hd2 : H2 p = some (.dK (deckD l m (t + 1))) := by rw [← hH2, upd_same]
      refine ⟨_, rfl, p, _, rfl, dget_mixed hd2, _, rfl, p, _, rfl, dget_turns hd2, _, _, rfl, rfl, .inl ⟨by decide, by decide⟩, _, _, rfl, rfl, .inl ⟨_, rfl, _, _, rfl, rfl, by show (0 : Int) < 4294967279; decide, ?_⟩⟩
      generalize hn1 : (m + 2654435761 * (t + 1)) % 4294967279 = n1
      have b1 : 0 ≤ n1 ∧ n1 < 4294967279 := by omega
      refine ⟨_, rfl, _, rfl, _, _, rfl, rfl, .inl ⟨by omega, by omega⟩, _, rfl, p, _, rfl, dget_turns hd2, _, _, rfl, rfl, .inl ⟨by decide, by decide⟩, _, _, rfl, rfl, _, _, rfl, rfl, .inl ⟨_, rfl, _, _, rfl, rfl, by show (0 : Int) < 4294967231; decide, ?_⟩⟩
      generalize hn2 : (n1 * n1 + 40503 * (t + 1) + 19) % 4294967231 = n2
      have b2 : 0 ≤ n2 ∧ n2 < 4294967231 := by omega
      refine ⟨_, rfl, _, rfl, _, _, rfl, rfl, .inl ⟨by omega, by omega⟩, _, rfl, p, _, rfl, dget_mixed hd2, _, _, rfl, rfl, .inr ⟨by decide, by decide⟩, _, _, rfl, rfl, .inl ⟨_, rfl, _, _, rfl, rfl, by show (0 : Int) < 4294967197; decide, ?_⟩⟩
      generalize hn3 : (n2 * n2 + m * 7) % 4294967197 = n3
      refine ⟨_, rfl, _, _, rfl, rfl, ⟨by decide, by decide⟩, .inl ⟨_, rfl, _, rfl, _, _, rfl, rfl, by show (0 : Int) < many; omega, ?_⟩⟩
      exact k _ _ (Int.emod_nonneg _ (by omega)) (Int.emod_lt_of_pos _ (by omega)) E2
end
end L2.Hx

/-! What the law's own defs have in common. -/
namespace L2.Hx
open PySem PySem.Spec PyProof.Rows
section
variable {P : Program} {w : World} {K : PySem.W.Frag} {mg : Str → Option Value} {base : Heap} {p l : Addr} {σ : St} {G : Hp}
theorem sameAdd {H : Hp} {a : Addr} {o : HO} (h : H a = none) : Same H (upd H a o) := fun b u q => by
  rw [upd_ne (ne_of_none q h)]
  exact q
theorem sameOut {H0 H : Hp} {a : Addr} {o : HO} (s : Same H0 H) (h : H0 a = none) : Same H0 (upd H a o) := fun b u q => by
  rw [upd_ne (ne_of_none q h)]
  exact s b u q
theorem Da.tupI {K : PySem.W.Frag} {G : Hp} {v : V} {ds : List PyData} (h : Da K G v (.tuple ds)) : ∃ a xs, v = .ref a ∧ SqT K G a xs ∧ DaAll K G xs ds := by
  cases h with
  | tup h t => exact ⟨_, _, rfl, h, t⟩
theorem Da.strI {K : PySem.W.Frag} {G : Hp} {v : V} {z : Str} (h : Da K G v (.str z)) : v = .str z := by
  cases h
  rfl
theorem ite_of {c A B : Prop} {x : Bool} [Decidable c] (e : x = decide c) (h1 : c → A) (h2 : ¬ c → B) : if x = true then A else B := by
  subst e
  exact ite2 (fun h => h1 (of_decide_eq_true h)) fun h => h2 (of_decide_eq_false (Bool.eq_false_iff.mpr h))
theorem iteNot {c : Bool} {A B : Prop} (h1 : c = false → A) (h2 : c = true → B) : if (!c) = true then A else B := by
  cases c
  · exact iteT (h1 rfl)
  · exact iteF (h2 rfl)
theorem iteB {c : Bool} {A B : Prop} (h1 : c = true → A) (h2 : c = false → B) : if c = true then A else B := by
  cases c
  · exact iteF (h2 rfl)
  · exact iteT (h1 rfl)
theorem behindI {N I : Hp → Prop} {A : Prop} (main : (∀ H2, I H2 → N H2) → A) (fin : ∀ H2, I H2 → N H2) : A := main fin
theorem behindP {N I : V → Hp → Prop} {A : Prop} (main : (∀ u H2, I u H2 → N u H2) → A) (fin : ∀ u H2, I u H2 → N u H2) : A := main fin
theorem behind {N : Hp → Prop} {p l : Addr} {G H : Hp} {A : Prop} (main : (∀ H2 G2, Ext p l G H G2 H2 → N H2) → A) (fin : ∀ H2 G2, Ext p l G H G2 H2 → N H2) : A := main fin
theorem ite_dec {c A B : Prop} [Decidable c] (hc : c) (h : A) : if decide c = true then A else B := by
  rw [if_pos (decide_eq_true hc)]
  exact h
theorem if_no {c : Bool} {A B : Prop} (h : c = false) (b : B) : if c = true then A else B := by
  rw [h]
  exact b
theorem Wd.still {p l : Addr} {G H H' : Hp} (W : Wd p l G H) (s : Same H H') : Ext p l G H G H' := by
  refine ⟨⟨W.same.trans s, W.gp, W.gl, ?_, ?_⟩, Same.refl G, fun b o _ _ q => s b o q, fun _ _ _ g => g⟩
  · obtain ⟨m, t, m0, m1, e⟩ := W.dk
    exact ⟨m, t, m0, m1, s _ _ e⟩
  · obtain ⟨ns, z, e⟩ := W.ls
    exact ⟨ns, z, s _ _ e⟩
theorem Okd.fit {k n : Nat} {d : PyData} (h : Okd k n d) (hn : n ≤ sizeLine) : Fit d := ⟨h.ok, Nat.le_trans h.sz hn⟩
theorem cut_ints (ns : List Int) (lo hi : Option Int) : ∃ ms : List Int, cutV (ns.map V.int) lo hi = ms.map V.int ∧ ms.length ≤ ns.length := by
  refine ⟨(ns.drop (HT.sIx (ns.map V.int).length 0 lo)).take (HT.sIx (ns.map V.int).length (ns.map V.int).length hi - HT.sIx (ns.map V.int).length 0 lo), ?_, ?_⟩
  · unfold cutV
    rw [List.map_take, List.map_drop]
  · rw [List.length_take, List.length_drop]
    omega
theorem deck_merge (l : Addr) (m t : Int) : mergeK [] (deckD l m t) = deckD l m t := by
  have h1 : decide (("great" : Str) = "mixed") = false := by decide +kernel
  have h2 : decide (("great" : Str) = "turns") = false := by decide +kernel
  have h3 : decide (("mixed" : Str) = "turns") = false := by decide +kernel
  have n1 := of_decide_eq_false h1
  have n2 := of_decide_eq_false h2
  have n3 := of_decide_eq_false h3
  simp [mergeK, deckD, putK, n1, n2, n3]
def spDeck (K : PySem.W.Frag) : Sp := fun vs H Q _ => ∃ (a : Addr) (ns : List Int), vs = [.ref a] ∧ SqL K H a (ns.map V.int) ∧ ns.length ≤ 63 ∧ ∀ p l H', Wd p l H H' → Q (.ref p) H'
theorem D_deck (T : Txt K mg) : Df P w K mg base 1 "_law_deck" ["script"] (spDeck K) := by
  obtain ⟨f, fd, S⟩ := T.d_l_deck
  refine Df.mk' (k := 0) S sc_l_deck (fun vs H Q E h => ?_) (fun cdv A outer s H vs Q E hgd hr h => ?_)
  · obtain ⟨a, ns, rfl, _⟩ := h
    rfl
  · obtain ⟨a, ns, rfl, hS, hz, k⟩ := h
    have hu := hu_of hr
    refine ⟨_, (pss_cons (ps_set (i := 1) sc_l_deck.nd rfl (.inl rfl) (pe_disp (pps_cons pe_str (pe_lst pa_nil) (pps_cons pe_str (pe_op op_add pe_int (pe_callB call_len_seq (by rfl) T.b_len (by decide +kernel) (pa_cons (pe_slice sl_list (pv 0) po_none (po_some pe_int)) pa_nil))) (pps_cons pe_str pe_int pps_nil))) (by rfl) (by rfl) (fun z => by cases z) (by decide)))
      (pss_cons (ps_for PassesOwn.never rfl (pi_list (pe_slice sl_list (pv 0) po_none (po_some pe_int))) (pg_name (i := 2) sc_l_deck.nd rfl (.inl rfl))
      (pss_cons (ps_set (i := 3) sc_l_deck.nd rfl (.inl rfl) (pe_op op_add (pe_op op_mul pe_int (pe_callB call_abs (by rfl) T.b_abs (by decide +kernel) (pa_cons (pv 2) pa_nil))) (pe_callTy call_int1 (by rfl) T.b_int (by decide +kernel) (pa_cons (pe_cmpR op_lt (pv 2) pe_int (nomark _)) pa_nil))))
      (pss_cons (ps_if (pt_cmpR op_ge (pv 3) (pe_op op_pow pe_int pe_int) (nomark _)) (pss_one (ps_expr (pe_bm PySem.F.plainAttrs_list PySem.F.slot_list_append PySem.F.type_list_append mt_append (pe_dget hu (pv 1) pe_str (fun _ _ => rfl)) (pa_cons (pv 3) pa_nil)))) pss_nil)
      (pss_one (ps_dput hu (pv 1) pe_str (pe_op op_mod (pe_callTy call_int1 (by rfl) T.b_int (by decide +kernel) (pa_cons (pe_op op_add (pe_op op_add (pe_op op_mul (pe_dget hu (pv 1) pe_str (fun _ _ => rfl)) pe_int) (pv 3)) pe_int) pa_nil)) pe_int) rfl)))))
      (pss_one (ps_ret (pv 1))))), ?_⟩
    refine fun p hp => ⟨Nat.zero_le _, fun l hl => ?_⟩
    have npl : p ≠ l := fun z => by
      rw [z, upd_same] at hl
      cases hl
    have hl0 : H l = none := by
      rw [upd_ne npl.symm] at hl
      exact hl
    have s0 : Same H (upd (upd H p (.dK [])) l (.lst [])) := (sameAdd hp).trans (sameAdd hl)
    refine ⟨_, rfl, _, rfl, a, _, rfl, s0.seq hS, fun q hq => ?_⟩
    obtain ⟨ms, e1, e2⟩ := cut_ints ns none (some 63)
    rw [e1]
    have nqp : q ≠ p := fun z => by
      rw [z, upd_ne npl, upd_same] at hq
      cases hq
    have nql : q ≠ l := fun z => by
      rw [z, upd_same] at hq
      cases hq
    have hq0 : H q = none := by
      rw [upd_ne nql, upd_ne nqp] at hq
      exact hq
    refine ⟨q, _, rfl, .inl (SqL.of upd_same), _, _, rfl, rfl, by rw [upd_ne nqp.symm, upd_ne npl, upd_same], deckD l (1283 + ((ms.map V.int).length : Int)) 0, rfl, by show 3 ≤ 15; decide, ?_⟩
    rw [deck_merge, List.length_map]
    generalize hH1 : upd (upd (upd (upd H p (.dK [])) l (.lst [])) q (.lst (ms.map V.int))) p (.dK (deckD l (1283 + (ms.length : Int)) 0)) = H1
    have S1 : Same H H1 := by
      rw [← hH1]
      exact sameOut (sameOut (sameOut (sameOut (Same.refl H) hp) hl0) hq0) hp
    have W1 : Wd p l H H1 := ⟨S1, hp, hl0, ⟨1283 + (ms.length : Int), 0, by omega, by omega, by rw [← hH1, upd_same]⟩, ⟨[], by decide, by rw [← hH1, upd_ne npl.symm, upd_ne nql.symm, upd_same]; rfl⟩⟩
    have L1 : H1 l = some (.lst (([] : List Int).map V.int)) := by
      rw [← hH1, upd_ne npl.symm, upd_ne nql.symm, upd_same]
      rfl
    obtain ⟨ms2, e3, e4⟩ := cut_ints ns none (some 63)
    refine ⟨_, rfl, _, rfl, a, _, rfl, S1.seq hS, fun q2 hq2 => ?_⟩
    rw [e3]
    have n2p := W1.np hq2
    have n2l := W1.nl hq2
    have E1 := W1.tmp (o := .lst (ms2.map V.int)) hq2
    refine ⟨q2, rfl, ⟨_, SqL.of upd_same⟩, for_list (K := K) (a := q2) (xs := ms2.map V.int) (fun i σ H2 => ∃ c v, σ = [some (.ref a), some (.ref p), c, v] ∧ Wd p l H H2 ∧ (∃ gs : List Int, gs.length ≤ i ∧ H2 l = some (.lst (gs.map V.int))) ∧ H2 q2 = some (.lst (ms2.map V.int)))
      ⟨none, none, rfl, E1.w, ⟨[], Nat.le_refl _, by rw [upd_ne n2l.symm]; exact L1⟩, upd_same⟩ (fun i σ H2 _ ⟨_, _, _, _, _, h⟩ => SqL.of h) ?_ ?_⟩
    · rintro i x σ H2 hx ⟨c, v, rfl, W2, ⟨gs, g1, g2⟩, h2⟩
      have hi := (List.getElem?_eq_some_iff.mp hx).1
      rw [List.length_map] at hi
      obtain ⟨u, rfl⟩ : ∃ u, x = V.int u := by
        obtain ⟨u, _, e⟩ := List.mem_map.mp (List.mem_of_getElem? hx)
        exact ⟨u, e.symm⟩
      refine ⟨_, rfl, u, rfl, _, _, rfl, rfl, .inl ⟨by decide, by decide⟩, _, rfl, _, _, rfl, rfl, .inr ⟨_, rfl, _, _, rfl, rfl, ?_⟩⟩
      dsimp only
      generalize (2 * (if u < 0 then -u else u) + (if decide (u < 0) = true then 1 else 0) : Int) = wh
      refine' behindI (I := fun H3 => Wd p l H H3 ∧ (∃ gs : List Int, gs.length ≤ i + 1 ∧ H3 l = some (.lst (gs.map V.int))) ∧ H3 q2 = some (.lst (ms2.map V.int))) (fun fin => ?_) ?_
      rotate_left 1
      · refine ⟨_, rfl, _, _, rfl, rfl, ⟨by decide, by decide, by decide⟩, _, _, rfl, rfl, _, rfl, ite2 (fun _ => ?_) (fun _ => ?_)⟩
        · obtain ⟨m, t, m0, m1, hd⟩ := W2.dk
          refine ⟨_, rfl, p, _, rfl, dget_great hd, .inl ⟨rfl, _, SqL.of g2⟩, _, rfl, l, _, _, rfl, rfl, g2, by rw [List.length_map]; exact small1000 (by omega), ?_⟩
          have E3 := W2.gset (gs ++ [wh]) (by rw [List.length_append, List.length_singleton]; omega)
          rw [show gs.map V.int ++ [V.int wh] = (gs ++ [wh]).map V.int by rw [List.map_append]; rfl]
          have I3 : Wd p l H (upd H2 l (.lst ((gs ++ [wh]).map V.int))) ∧ (∃ gs2 : List Int, gs2.length ≤ i + 1 ∧ (upd H2 l (.lst ((gs ++ [wh]).map V.int))) l = some (.lst (gs2.map V.int))) ∧ (upd H2 l (.lst ((gs ++ [wh]).map V.int))) q2 = some (.lst (ms2.map V.int)) :=
            ⟨E3.w, ⟨gs ++ [wh], by rw [List.length_append, List.length_singleton]; omega, upd_same⟩, by rw [upd_ne n2l]; exact h2⟩
          generalize upd H2 l (.lst ((gs ++ [wh]).map V.int)) = H3 at I3 ⊢
          exact fin H3 I3
        · exact fin H2 ⟨W2, ⟨gs, by omega, g2⟩, h2⟩
      · rintro H3 ⟨W3, ⟨g3, z3, l3⟩, h3⟩
        obtain ⟨m, t, m0, m1, hd⟩ := W3.dk
        refine ⟨_, rfl, p, _, rfl, dget_mixed hd, _, _, rfl, rfl, .inr ⟨by decide, by decide⟩, _, rfl, _, _, rfl, rfl, _, _, rfl, rfl, .inl ⟨_, rfl, _, _, rfl, rfl, by show (0 : Int) < 4294967291; decide, _, rfl, p, _, rfl, dput_mixed hd, ?_⟩⟩
        have E4 := W3.dset (m := (m * 75161 + wh + 11) % 4294967291) (t := t) (Int.emod_nonneg _ (by decide)) (Int.emod_lt_of_pos _ (by decide))
        exact ⟨_, _, rfl, E4.w, ⟨g3, z3, by rw [upd_ne npl.symm]; exact l3⟩, by rw [upd_ne n2p]; exact h3⟩
    · rintro σ H2 ⟨c, v, rfl, W2, _, _⟩
      exact ⟨_, rfl, k p l H2 W2⟩
def LsP (ψ : PyData → Prop) (d : PyData) : Prop := ∃ ds, d = .list ds ∧ 0 < ds.length ∧ ds.length < 1000000 ∧ ∀ x ∈ ds, ψ x
def spPick : Sp := fun vs H Q _ => ∃ (p l : Addr) (G : Hp) (a : Addr) (xs : List V), vs = [.ref p, .ref a] ∧ Wd p l G H ∧ H a = some (.lst xs) ∧ a ≠ p ∧ a ≠ l ∧ 0 < xs.length ∧ xs.length < 1000000 ∧ ∀ x H', x ∈ xs → Ext p l G H G H' → Q x H'
def spDrawn (K : PySem.W.Frag) (ψ φ : PyData → Prop) : Sp := fun vs H Q _ => ∃ (p l : Addr) (G : Hp) (v : V) (d : PyData), vs = [.ref p, v] ∧ Wd p l G H ∧ Da K G v d ∧ ψ d ∧ ∀ u e G2 H2, Ext p l G H G2 H2 → Da K G2 u e → φ e → Q u H2
theorem atI_nat2 {xs : List V} {i : Int} (h0 : 0 ≤ i) (h1 : i < xs.length) : ∃ x, atI xs i = some x ∧ x ∈ xs := by
  have hi : i.toNat < xs.length := by omega
  refine ⟨xs[i.toNat], ?_, List.getElem_mem hi⟩
  unfold atI ixN
  rw [if_pos h0, if_pos h1]
  show xs[i.toNat]? = _
  rw [List.getElem?_eq_getElem hi]
theorem D_pick (T : Txt K mg) : Df P w K mg base 2 "_law_pick" ["deck", "items"] spPick := by
  have D_l_draw := D_draw (P := P) (w := w) (base := base) T
  obtain ⟨f, fd, S⟩ := T.d_l_pick
  refine Df.mk' (k := 1) S sc_l_pick (fun vs H Q E h => ?_) (fun cdv A outer s H vs Q E hgd hr h => ?_)
  · obtain ⟨p, l, G, a, xs, rfl, _⟩ := h
    rfl
  · obtain ⟨p, l, G, a, xs, rfl, W, ha, n1, n2, h0, h1, k⟩ := h
    refine ⟨_, (pss_one (ps_ret (pe_ix ix_list (pv 1) (pe_d D_l_draw hgd hr (pa_cons (pv 0) (pa_cons (pe_callB call_len_seq (by rfl) T.b_len (by decide +kernel) (pa_cons (pv 1) pa_nil)) pa_nil))) (fun _ _ => rfl)))), ?_⟩
    refine ⟨_, rfl, _, rfl, _, rfl, a, xs, rfl, .inl (SqL.of ha), p, l, G, _, rfl, by omega, by omega, W, fun r H1 r0 r1 e => ?_⟩
    obtain ⟨x, hx, mx⟩ := atI_nat2 r0 r1
    exact ⟨a, xs, r, x, rfl, rfl, SqL.of (e.keep _ _ n1 n2 ha), hx, k x H1 mx e⟩
theorem td_pick {p l : Addr} {σ : St} {G : Hp} {ta : TE} {ψ : PyData → Prop} {i : Nat} (h : TD K p l σ G ta (LsP ψ)) (hd : σ[i]? = some (some (.ref p))) : TD K p l σ G (tCall spPick [] E0 (tCons (tVar i) (tCons ta tNil))) ψ := fun G1 H Q W s kk =>
  ⟨_, hd, h G1 H _ W s fun v d G2 H2 e da f => by
    obtain ⟨ds, rfl, z0, z1, o⟩ := f
    cases da with
    | @lst a xs _ t1 a1 =>
      have hl := a1.length
      refine ⟨p, l, G2, a, xs, rfl, e.w, e.w.same _ _ t1, fun q => ?_, fun q => ?_, by omega, by omega, fun x H3 mx e3 => ?_⟩
      · rw [q, e.w.gp] at t1
        cases t1
      · rw [q, e.w.gl] at t1
        cases t1
      · obtain ⟨d, md, dd⟩ := a1.mem mx
        exact kk x d G2 H3 (e.trans W e3) dd (o d md)⟩
theorem td_lstP {p l : Addr} {σ : St} {G : Hp} {tr : TA} {Φ : List PyData → Prop} (h : TDs K p l σ G tr Φ) (hz : ∀ ds, Φ ds → ds.length ≤ sizeLine) : TD K p l σ G (tLst tr) (fun d => ∃ ds, d = .list ds ∧ Φ ds) := fun G1 H Q W s k =>
  h G1 H _ W s fun vs ds G2 H2 e da f => ⟨by rw [da.length]; exact hz ds f, fun a ha => k _ _ _ _ (e.trans W (e.w.put ha)) (.lst upd_same (da.mono (e.w.put (o := .lst vs) ha).sub)) ⟨ds, rfl, f⟩⟩
theorem td_mono {t : TE} {k n k2 n2 : Nat} (h : TD K p l σ G t (Okd k n)) (hk : k ≤ k2 := by decide) (hn : n ≤ n2 := by decide) : TD K p l σ G t (Okd k2 n2) := h.imp fun d f => f.mono hk hn
theorem TD.app {t : TE} {φ : PyData → Prop} (h : TD K p l σ G t φ) {H : Hp} {Q : VK} (W : Wd p l G H) (k : ∀ v d G2 H2, Ext p l G H G2 H2 → Da K G2 v d → φ d → Q v H2) : t σ H Q := h G H Q W (Same.refl G) k
theorem TDs.asgL {H : Hp} {D : Ends} {i : Nat} {tr : TA} {Φ : List PyData → Prop} (h : TDs K p l σ G tr Φ) (W : Wd p l G H) (hz : ∀ ds, Φ ds → ds.length ≤ sizeLine)
    (k : ∀ vs ds G2 H2 r, Ext p l G H G2 H2 → DaAll K G2 vs ds → Φ ds → H2 r = none → D.nx (σ.set i (some (.ref r))) (upd H2 r (.lst vs))) : tAsg (tLst tr) (gName i) D σ H :=
  h G H _ W (Same.refl G) fun vs ds G2 H2 e da f => ⟨by rw [da.length]; exact hz ds f, fun r hr => k vs ds G2 H2 r e da f hr⟩
theorem da_strs {K : PySem.W.Frag} {G : Hp} : ∀ ws : List Str, DaAll K G (ws.map V.str) (ws.map PyData.str)
  | [] => .nil
  | n :: ns => .cons (.str n) (da_strs ns)
theorem line16 : 16000000 ≤ sizeLine := by decide
end
theorem erase_perm {α : Type} : ∀ (l : List α) (i : Nat) (h : i < l.length), (l[i] :: l.eraseIdx i).Perm l
  | [], i, h => absurd h (Nat.not_lt_zero i)
  | x :: xs, 0, _ => .refl _
  | x :: xs, i + 1, h => (List.Perm.swap x (xs[i]'(Nat.lt_of_succ_lt_succ h)) (xs.eraseIdx i)).trans ((erase_perm xs i (Nat.lt_of_succ_lt_succ h)).cons x)
def IntD (B : Int) (d : PyData) : Prop := ∃ n : Int, d = .int n ∧ 0 ≤ n ∧ n ≤ B
def AllF (φ : PyData → Prop) (m : Nat) (ds : List PyData) : Prop := ds.length = m ∧ ∀ d ∈ ds, φ d
theorem vint {a b : Int} (h : V.int a = V.int b) : a = b := by
  cases h
  rfl
theorem tup_or : ∀ d : PyData, (∃ ds, d = .tuple ds) ∨ isTup d = false
  | .tuple ds => .inl ⟨ds, rfl⟩
  | .none => .inr rfl
  | .bool _ => .inr rfl
  | .int _ => .inr rfl
  | .str _ => .inr rfl
  | .list _ => .inr rfl
  | .dict _ => .inr rfl
section
variable {K : PySem.W.Frag} {p l : Addr} {σ : St} {G : Hp} {φ : PyData → Prop} {t te : TE} {tr : TA} {m : Nat} {B : Int}
theorem tds_nilF : TDs K p l σ G tNil (AllF φ 0) := fun G1 H Q W _ k => k _ _ _ _ (Ext.refl W) .nil ⟨rfl, fun d h => absurd h List.not_mem_nil⟩
theorem tds_consF (h : TD K p l σ G t φ) (hr : TDs K p l σ G tr (AllF φ m)) : TDs K p l σ G (tCons t tr) (AllF φ (m + 1)) := fun G1 H Q W s k =>
  tds_consP h hr G1 H Q W s fun vs ds G2 H2 e da f => k vs ds G2 H2 e da (by
    obtain ⟨d, r, rfl, h1, l1, h2⟩ := f
    refine ⟨by rw [List.length_cons, l1], fun x mx => ?_⟩
    rcases List.mem_cons.mp mx with rfl | mx
    · exact h1
    · exact h2 x mx)
theorem td_lstF (h : TDs K p l σ G tr (AllF φ (m + 1))) (hz : m + 1 < 1000000 := by decide) : TD K p l σ G (tLst tr) (LsP φ) := TD.imp (td_lstP h fun ds f => by
  have : 1000000 ≤ sizeLine := by decide
  rw [f.1]
  omega) fun d ⟨ds, e, l1, h1⟩ => ⟨ds, e, by omega, by omega, h1⟩
theorem td_intF {i : Int} (h0 : 0 ≤ i := by decide) (h1 : i ≤ B := by decide) : TD K p l σ G (tC (.int i)) (IntD B) := .flat (fun _ => .int i) ⟨i, rfl, h0, h1⟩
theorem td_powF {i : Int} (h : (0 : Int) ≤ 10 ^ i.toNat ∧ (10 : Int) ^ i.toNat ≤ B := by decide +kernel) (hc : CPow 10 i := by exact ⟨by decide, by decide, by decide⟩) : TD K p l σ G (tOp (rI CPow fun i j => .int (i ^ j.toNat)) (tC (.int 10)) (tC (.int i))) (IntD B) := fun G1 H Q W s kk =>
  ⟨10, i, rfl, rfl, hc, kk _ _ _ _ (Ext.refl W) (.int _) ⟨_, rfl, h.1, h.2⟩⟩
theorem td_varI {j : Nat} {i : Int} (hj : σ[j]? = some (some (.int i))) (h0 : 0 ≤ i) (h1 : i ≤ B) : TD K p l σ G (tVar j) (IntD B) := td_var hj (.int i) ⟨i, rfl, h0, h1⟩
theorem td_addI {j : Nat} {i c : Int} (hj : σ[j]? = some (some (.int i))) (h0 : 0 ≤ i + c) (h1 : i + c ≤ B) : TD K p l σ G (tOp (rI0 fun i j => .int (i + j)) (tVar j) (tC (.int c))) (IntD B) := fun G1 H Q W s kk =>
  ⟨_, hj, _, _, rfl, rfl, kk _ _ _ _ (Ext.refl W) (.int _) ⟨_, rfl, h0, h1⟩⟩
theorem td_lcl {a : Addr} {xs : List V} {i j : Nat} {φ : Nat → PyData → Prop} (hi : σ[i]? = some (some (.ref a))) (hS : SqL K G a xs) (hM : xs.length < sizeLine) (he : ∀ n x, xs[n]? = some x → TD K p l ((σ.set j none).set j (some x)) G te (φ n)) :
    TD K p l σ G (tLc (iList K (tVar i)) (gName j) tYes te [j]) (fun d => ∃ ds, d = .list ds ∧ ds.length = xs.length ∧ ∀ n e, ds[n]? = some e → φ n e) := fun G1 H Q W s k =>
  ⟨_, hi, a, rfl, ⟨xs, (s.trans W.same).seq hS⟩, fun D hD => by
    have nDp := W.np hD
    have nDl := W.nl hD
    have E1 := W.tmp (o := .lst []) hD
    refine lc_list (K := K) (a := a) (xs := xs) (fun i H3 => ∃ G3 vs ds, Wd p l G3 H3 ∧ Same G1 G3 ∧ G3 D = none ∧ H3 D = some (.lst vs) ∧ DaAll K G3 vs ds ∧ ds.length = i ∧ (∀ n e, ds[n]? = some e → φ n e) ∧
        (∀ b o, b ≠ p → b ≠ l → b ≠ D → H b = some o → H3 b = some o) ∧ (∀ b o, H b = some o → G1 b = none → G3 b = none))
      ⟨G1, [], [], E1.w, Same.refl _, W.same.free hD, upd_same, .nil, rfl, fun n e m => (by cases n <;> cases m), fun b o n1 n2 n3 q => by rw [upd_ne n3]; exact q, fun b o _ g => g⟩
      (fun i H3 _ ⟨G3, vs, ds, w3, s3, _⟩ => ((s.trans s3).trans w3.same).seq hS) ?_ ?_
    · rintro n x H3 hx ⟨G3, vs, ds, w3, s3, gD, hD3, da3, l3, f3, k3, n3⟩
      have hn := (List.getElem?_eq_some_iff.mp hx).1
      refine ⟨set_none σ, ?_⟩
      show te _ _ _
      refine he n x hx G3 H3 _ w3 (s.trans s3) fun v d G4 H4 e4 da4 f4 => ?_
      have hD4 : H4 D = some (.lst vs) := e4.keep _ _ nDp nDl hD3
      have gD4 : G4 D = none := e4.new _ _ hD3 gD
      refine ⟨vs, hD4, by rw [da3.length, l3]; omega, G4, vs ++ [v], ds ++ [d], e4.w.own nDp nDl gD4, s3.trans e4.sub, gD4, upd_same, (da3.mono e4.sub).append (.cons da4 .nil),
        by rw [List.length_append, l3]; rfl, fun n2 e2 m => ?_, fun b o n1 n2 n4 q => ?_, fun b o q g => ?_⟩
      · rw [List.getElem?_append] at m
        split at m
        · exact f3 _ _ m
        · have hn2 : n2 - ds.length = 0 := by
            have := (List.getElem?_eq_some_iff.mp m).1
            rw [List.length_singleton] at this
            omega
          rw [hn2] at m
          cases m
          have : n2 = n := by omega
          rw [this]
          exact f4
      · rw [upd_ne n4]
        exact e4.keep _ _ n1 n2 (k3 b o n1 n2 n4 q)
      · have g3 := n3 b o q g
        by_cases b1 : b = p
        · subst b1
          exact e4.w.gp
        · by_cases b2 : b = l
          · subst b2
            exact e4.w.gl
          · exact e4.new b o (k3 b o b1 b2 (ne_of_none q hD) q) g3
    · rintro H3 ⟨G3, vs, ds, w3, s3, gD, hD3, da3, l3, f3, k3, n3⟩
      obtain ⟨w4, s4⟩ := w3.hold nDp nDl gD hD3
      have E2 : Ext p l G1 H (upd G3 D (.lst vs)) H3 := ⟨w4, s3.trans s4, fun b o n1 n2 q => k3 b o n1 n2 (ne_of_none q hD) q, fun b o q g => by
        rw [upd_ne (ne_of_none q hD)]
        exact n3 b o q g⟩
      exact k _ _ _ _ E2 (.lst upd_same (da3.mono s4)) ⟨ds, rfl, l3, f3⟩⟩
end
end L2.Hx

/-! Rings and long lists: what is due, over plain lists. -/
namespace L2.Hx
open PySem PySem.Spec PyProof.Rows
def msr (ks S : List Int) : Nat := (ks.filter fun k => !decide (k ∈ S)).length
theorem msr_le (a : Int) (S : List Int) : ∀ ks : List Int, msr ks (S ++ [a]) ≤ msr ks S
  | [] => Nat.le_refl _
  | k :: ks => by
    have ih := msr_le a S ks
    unfold msr at ih ⊢
    rw [List.filter_cons, List.filter_cons]
    by_cases h : k ∈ S
    · rw [decide_eq_true h, decide_eq_true (List.mem_append_left [a] h)]
      exact ih
    · rw [decide_eq_false h]
      split
      · rw [if_pos (show (!false) = true from rfl), List.length_cons, List.length_cons]
        omega
      · rw [if_pos (show (!false) = true from rfl), List.length_cons]
        omega
theorem msr_lt {a : Int} {S : List Int} : ∀ {ks : List Int}, a ∈ ks → ¬ a ∈ S → msr ks (S ++ [a]) < msr ks S
  | [], h, _ => absurd h List.not_mem_nil
  | k :: ks, h, hn => by
    have le := msr_le a S ks
    by_cases e : a = k
    · subst e
      unfold msr at le ⊢
      rw [List.filter_cons, List.filter_cons, decide_eq_false hn, decide_eq_true (List.mem_append_right S List.mem_cons_self), if_pos (show (!false) = true from rfl), if_neg (show ¬ (!true) = true from Bool.false_ne_true), List.length_cons]
      omega
    · have hk : a ∈ ks := (List.mem_cons.mp h).resolve_left e
      have ih := msr_lt hk hn
      unfold msr at ih ⊢
      rw [List.filter_cons, List.filter_cons]
      by_cases h : k ∈ S
      · rw [decide_eq_true h, decide_eq_true (List.mem_append_left [a] h)]
        exact ih
      · rw [decide_eq_false h]
        split
        · rw [if_pos (show (!false) = true from rfl), List.length_cons, List.length_cons]
          omega
        · rw [if_pos (show (!false) = true from rfl), List.length_cons]
          omega
/-- the road from a to e over the keys, behind those that are gone -/
def roadF (ks : List Int) (M : Int → Int) (e a : Int) (r : List Int) : Option (List Int) :=
  if a = e then some r else if h : a ∈ ks ∧ ¬ a ∈ r then roadF ks M e (M a) (r ++ [a]) else none
termination_by msr ks r
decreasing_by exact msr_lt h.1 h.2
/-- all that is come to from a, behind those that are met -/
def reachF (ks : List Int) (M : Int → Int) (a : Int) (S : List Int) : List Int :=
  if h : a ∈ ks ∧ ¬ a ∈ S then reachF ks M (M a) (S ++ [a]) else S
termination_by msr ks S
decreasing_by exact msr_lt h.1 h.2
theorem roadF_end {ks : List Int} {M : Int → Int} {e a : Int} {r : List Int} (h : a = e) : roadF ks M e a r = some r := by
  rw [roadF, if_pos h]
theorem roadF_on {ks : List Int} {M : Int → Int} {e a : Int} {r : List Int} (h : ¬ a = e) (h1 : a ∈ ks) (h2 : ¬ a ∈ r) : roadF ks M e a r = roadF ks M e (M a) (r ++ [a]) := by
  rw [roadF, if_neg h, dif_pos ⟨h1, h2⟩]
theorem roadF_no {ks : List Int} {M : Int → Int} {e a : Int} {r : List Int} (h : ¬ a = e) (h1 : ¬ (a ∈ ks ∧ ¬ a ∈ r)) : roadF ks M e a r = none := by
  rw [roadF, if_neg h, dif_neg h1]
theorem reachF_on {ks : List Int} {M : Int → Int} {a : Int} {S : List Int} (h1 : a ∈ ks) (h2 : ¬ a ∈ S) : reachF ks M a S = reachF ks M (M a) (S ++ [a]) := by
  rw [reachF, dif_pos ⟨h1, h2⟩]
theorem reachF_no {ks : List Int} {M : Int → Int} {a : Int} {S : List Int} (h : ¬ (a ∈ ks ∧ ¬ a ∈ S)) : reachF ks M a S = S := by
  rw [reachF, dif_neg h]
/-- each once, and all of them keys -/
def Once (ks T : List Int) : Prop := T.Nodup ∧ ∀ x ∈ T, x ∈ ks
theorem Once.nil {ks : List Int} : Once ks [] := ⟨List.nodup_nil, fun x h => absurd h List.not_mem_nil⟩
theorem Once.snoc {ks T : List Int} {a : Int} (h : Once ks T) (h1 : a ∈ ks) (h2 : ¬ a ∈ T) : Once ks (T ++ [a]) := by
  refine ⟨List.nodup_append.mpr ⟨h.1, by simp, fun x hx y hy => ?_⟩, fun x hx => ?_⟩
  · rw [List.mem_singleton.mp hy]
    intro e
    rw [e] at hx
    exact h2 hx
  · rcases List.mem_append.mp hx with hx | hx
    · exact h.2 x hx
    · rw [List.mem_singleton.mp hx]
      exact h1
theorem once_len : ∀ {T ks : List Int}, Once ks T → T.length ≤ ks.length
  | [], _, _ => Nat.zero_le _
  | t :: T, ks, h => by
    have hc := List.nodup_cons.mp h.1
    have hm : t ∈ ks := h.2 t List.mem_cons_self
    have ih : T.length ≤ (ks.erase t).length := once_len ⟨hc.2, fun x hx => (List.mem_erase_of_ne (fun e => hc.1 (by rw [← e]; exact hx))).mpr (h.2 x (List.mem_cons_of_mem _ hx))⟩
    rw [List.length_erase_of_mem hm] at ih
    have pos : 0 < ks.length := List.length_pos_of_mem hm
    rw [List.length_cons]
    omega
theorem roadF_once {ks : List Int} {M : Int → Int} {e : Int} (a : Int) (r : List Int) {T : List Int} (h : Once ks r) (q : roadF ks M e a r = some T) : Once ks T := by
  by_cases h1 : a = e
  · rw [roadF_end h1] at q
    cases q
    exact h
  · by_cases h2 : a ∈ ks ∧ ¬ a ∈ r
    · rw [roadF_on h1 h2.1 h2.2] at q
      exact roadF_once (M a) (r ++ [a]) (h.snoc h2.1 h2.2) q
    · rw [roadF_no h1 h2] at q
      cases q
termination_by msr ks r
decreasing_by exact msr_lt h2.1 h2.2
theorem reachF_once {ks : List Int} {M : Int → Int} (a : Int) (S : List Int) (h : Once ks S) : Once ks (reachF ks M a S) := by
  by_cases h2 : a ∈ ks ∧ ¬ a ∈ S
  · rw [reachF_on h2.1 h2.2]
    exact reachF_once (M a) (S ++ [a]) (h.snoc h2.1 h2.2)
  · rw [reachF_no h2]
    exact h
termination_by msr ks S
decreasing_by exact msr_lt h2.1 h2.2
theorem roadF_sub {ks : List Int} {M : Int → Int} {e : Int} (a : Int) (r : List Int) {T : List Int} (q : roadF ks M e a r = some T) : ∀ x ∈ r, x ∈ T := by
  by_cases h1 : a = e
  · rw [roadF_end h1] at q
    cases q
    exact fun x h => h
  · by_cases h2 : a ∈ ks ∧ ¬ a ∈ r
    · rw [roadF_on h1 h2.1 h2.2] at q
      exact fun x h => roadF_sub (M a) (r ++ [a]) q x (List.mem_append_left _ h)
    · rw [roadF_no h1 h2] at q
      cases q
termination_by msr ks r
decreasing_by exact msr_lt h2.1 h2.2
def freeOf (S T : List Int) : Bool := T.all fun x => !decide (x ∈ S)
/-- a road behind others is the road by itself, if it meets none of them -/
theorem roadF_both {ks : List Int} {M : Int → Int} {e : Int} (S : List Int) (a : Int) (r : List Int) (hd : freeOf S r = true) :
    roadF ks M e a (S ++ r) = (roadF ks M e a r).bind fun T => if freeOf S T = true then some (S ++ T) else none := by
  by_cases h1 : a = e
  · rw [roadF_end h1, roadF_end h1, Option.bind_some, if_pos hd]
  · by_cases h2 : a ∈ ks ∧ ¬ a ∈ r
    · rw [roadF_on h1 h2.1 h2.2]
      by_cases h3 : a ∈ S
      · rw [roadF_no h1 (fun q => q.2 (List.mem_append_left _ h3))]
        cases q : roadF ks M e (M a) (r ++ [a]) with
        | none => rfl
        | some T =>
          have hm := roadF_sub (M a) (r ++ [a]) q a (List.mem_append_right _ List.mem_cons_self)
          rw [Option.bind_some, if_neg]
          intro z
          have := List.all_eq_true.mp z a hm
          rw [decide_eq_true h3] at this
          cases this
      · have hd2 : freeOf S (r ++ [a]) = true := by
          unfold freeOf at hd ⊢
          rw [List.all_append, hd, List.all_cons, decide_eq_false h3]
          rfl
        rw [roadF_on h1 h2.1 (fun q => (List.mem_append.mp q).elim h3 h2.2), List.append_assoc]
        exact roadF_both S (M a) (r ++ [a]) hd2
    · rw [roadF_no h1 h2, roadF_no h1 (fun q => h2 ⟨q.1, fun z => q.2 (List.mem_append_right _ z)⟩)]
      rfl
termination_by msr ks r
decreasing_by exact msr_lt h2.1 h2.2
abbrev Row := Str × Str × Str
section
variable (ks : List Int) (M W : Int → Int) (w : Str → Int)
/-- the program's part, behind those that are taken -/
def partP (S : List Int) (r : Row) : Option (List Int) :=
  if r.1 = "cell" then (if w r.2.1 ∈ ks ∧ ¬ w r.2.1 ∈ S ∧ M (w r.2.1) = w r.2.2 then some (S ++ [w r.2.1]) else none) else roadF ks M (w r.2.2) (w r.2.1) S
/-- the road of a part by itself -/
def partR (r : Row) : Option (List Int) :=
  if r.1 = "cell" then (if w r.2.1 ∈ ks ∧ M (w r.2.1) = w r.2.2 then some [w r.2.1] else none) else roadF ks M (w r.2.2) (w r.2.1) []
def partL (S : List Int) (r : Row) : Option (List Int) := (partR ks M w r).bind fun T => if freeOf S T = true then some (S ++ T) else none
theorem part_eq (S : List Int) (r : Row) : partP ks M w S r = partL ks M w S r := by
  unfold partP partL partR
  by_cases hc : r.1 = "cell"
  · rw [if_pos hc, if_pos hc]
    by_cases h1 : w r.2.1 ∈ ks ∧ M (w r.2.1) = w r.2.2
    · rw [if_pos h1, Option.bind_some]
      by_cases h2 : w r.2.1 ∈ S
      · rw [if_neg (fun q => q.2.1 h2), if_neg]
        intro z
        have := List.all_eq_true.mp z _ List.mem_cons_self
        rw [decide_eq_true h2] at this
        cases this
      · rw [if_pos ⟨h1.1, h2, h1.2⟩, if_pos]
        unfold freeOf
        rw [List.all_cons, decide_eq_false h2]
        rfl
    · rw [if_neg h1, if_neg (fun q => h1 ⟨q.1, q.2.2⟩)]
      rfl
  · rw [if_neg hc, if_neg hc]
    have := roadF_both (ks := ks) (M := M) (e := w r.2.2) S (w r.2.1) [] rfl
    rw [List.append_nil] at this
    exact this
def partsF (S : List Int) : List Row → Option (List Int)
  | [] => some S
  | r :: rs => (partP ks M w S r).bind fun T => partsF T rs
theorem partP_once {S T : List Int} {r : Row} (h : Once ks S) (q : partP ks M w S r = some T) : Once ks T := by
  unfold partP at q
  by_cases hc : r.1 = "cell"
  · rw [if_pos hc] at q
    by_cases h1 : w r.2.1 ∈ ks ∧ ¬ w r.2.1 ∈ S ∧ M (w r.2.1) = w r.2.2
    · rw [if_pos h1] at q
      cases q
      exact h.snoc h1.1 h1.2.1
    · rw [if_neg h1] at q
      cases q
  · rw [if_neg hc] at q
    exact roadF_once _ _ h q
theorem partsF_once : ∀ (rs : List Row) {S T : List Int}, Once ks S → partsF ks M w S rs = some T → Once ks T
  | [], S, T, h, q => by
    cases q
    exact h
  | r :: rs, S, T, h, q => by
    rw [partsF] at q
    cases e : partP ks M w S r with
    | none =>
      rw [e] at q
      cases q
    | some S2 =>
      rw [e, Option.bind_some] at q
      exact partsF_once rs (partP_once ks M w h e) q
/-- one look -/
def lookF (r : Row) : Bool := decide (w r.2.1 = w r.2.2) == decide (r.1 = "is")
def looksF (rs : List Row) : Bool := rs.all (lookF w)
def takenF (lk pt : List Row) : Option (List Int) := if looksF w lk = true then partsF ks M w [] pt else none
end
theorem takenF_once {ks : List Int} {M : Int → Int} {w : Str → Int} {lk pt : List Row} {T : List Int} (q : takenF ks M w lk pt = some T) : Once ks T := by
  unfold takenF at q
  split at q
  · exact partsF_once ks M w pt Once.nil q
  · cases q
/-- heaps and stores as lists -/
abbrev Hl := List (Int × Int)
abbrev Sl := List (Str × Int)
def keysH (hp : Hl) : List Int := hp.map (·.1)
def getH (hp : Hl) (k : Int) : Option Int := (hp.find? fun c => decide (c.1 = k)).map (·.2)
def getS (st : Sl) (t : Str) : Option Int := (st.find? fun c => decide (c.1 = t)).map (·.2)
def mapH (hp : Hl) (k : Int) : Int := (getH hp k).getD 0
def worth (st : Sl) (t : Str) : Option Int := if t = "nil" then some 0 else getS st t
def wF (st : Sl) (t : Str) : Int := (worth st t).getD 0
def Kn (st : Sl) (t : Str) : Prop := ∃ n, worth st t = some n
theorem Kn.eq {st : Sl} {t : Str} (h : Kn st t) : worth st t = some (wF st t) := by
  obtain ⟨n, e⟩ := h
  unfold wF
  rw [e]
  rfl
theorem getH_mem {k : Int} : ∀ {hp : Hl}, k ∈ keysH hp ↔ ∃ n, getH hp k = some n
  | [] => ⟨fun h => absurd h List.not_mem_nil, fun ⟨n, h⟩ => by cases h⟩
  | c :: hp => by
    by_cases e : c.1 = k
    · refine ⟨fun _ => ⟨c.2, ?_⟩, fun _ => ?_⟩
      · unfold getH
        rw [List.find?_cons, decide_eq_true e]
        rfl
      · show k ∈ c.1 :: keysH hp
        rw [e]
        exact List.mem_cons_self
    · have e2 : getH (c :: hp) k = getH hp k := by
        unfold getH
        rw [List.find?_cons, decide_eq_false e]
      rw [e2]
      refine ⟨fun h => getH_mem.mp ((List.mem_cons.mp h).resolve_left fun z => e z.symm), fun h => List.mem_cons_of_mem _ (getH_mem.mpr h)⟩
theorem getH_in {hp : Hl} {k : Int} (h : k ∈ keysH hp) : getH hp k = some (mapH hp k) := by
  obtain ⟨n, e⟩ := getH_mem.mp h
  unfold mapH
  rw [e]
  rfl
theorem getH_out {hp : Hl} {k : Int} (h : ¬ k ∈ keysH hp) : getH hp k = none := by
  cases e : getH hp k with
  | none => rfl
  | some n => exact absurd (getH_mem.mpr ⟨n, e⟩) h
/-- as many cells as keys are told -/
theorem filter_len {hp : Hl} (hn : (keysH hp).Nodup) {T : List Int} (h : Once (keysH hp) T) : (hp.filter fun c => decide (c.1 ∈ T)).length = T.length := by
  have p : List.Perm ((hp.filter fun c => decide (c.1 ∈ T)).map (·.1)) T := by
    refine (List.perm_ext_iff_of_nodup ?_ h.1).mpr fun x => ?_
    · exact hn.sublist (List.Sublist.map _ List.filter_sublist)
    · rw [List.mem_map]
      constructor
      · rintro ⟨c, hc, rfl⟩
        exact of_decide_eq_true (List.mem_filter.mp hc).2
      · intro hx
        obtain ⟨c, hc, e⟩ := List.mem_map.mp (h.2 x hx)
        exact ⟨c, List.mem_filter.mpr ⟨hc, decide_eq_true (by rw [e]; exact hx)⟩, e⟩
  have := p.length_eq
  rw [List.length_map] at this
  exact this
/-- what is due of part_of, of holds, of lost -/
def pairD (c : Int × Int) : PyData := .tuple [.int c.1, .int c.2]
def spairD (c : Str × Int) : PyData := .tuple [.str c.1, .int c.2]
def lrowD (r : Row) : PyData := .tuple [.str r.1, .str r.2.1, .str r.2.2]
def heapD (hp : Hl) : PyData := .tuple (hp.map pairD)
def storeD (st : Sl) : PyData := .tuple (st.map spairD)
def lclauseD (lk pt : List Row) : PyData := .tuple [.tuple (lk.map lrowD), .tuple (pt.map lrowD)]
abbrev takenS (st : Sl) (hp : Hl) (lk pt : List Row) : Option (List Int) := takenF (keysH hp) (mapH hp) (wF st) lk pt
def dueP (st : Sl) (hp : Hl) (lk pt : List Row) : PyData := match takenS st hp lk pt with
  | none => .none
  | some T => heapD (hp.filter fun c => decide (c.1 ∈ T))
def wholeP (st : Sl) (hp : Hl) (lk pt : List Row) : Bool := match takenS st hp lk pt with
  | none => false
  | some T => decide (T.length = hp.length)
def metP (hp : Hl) : Sl → List Int → List Int
  | [], S => S
  | c :: st, S => metP hp st (reachF (keysH hp) (mapH hp) c.2 S)
def lostP (st : Sl) (hp : Hl) : PyData := .tuple ((hp.filter fun c => !decide (c.1 ∈ metP hp st [])).map fun c => .int c.1)
theorem metP_once {hp : Hl} : ∀ (st : Sl) {S : List Int}, Once (keysH hp) S → Once (keysH hp) (metP hp st S)
  | [], S, h => h
  | c :: st, S, h => metP_once st (reachF_once c.2 S h)
end L2.Hx

/-! Rings and long lists: dicts of stores, of heaps, of what is taken; the program's looks and lists. -/
namespace L2.Hx
open PySem PySem.Spec PyProof.Rows
def stK (st : Sl) : List (Key × V) := st.map fun c => (.inr c.1, .int c.2)
def hpK (hp : Hl) : List (Key × V) := hp.map fun c => (.inl c.1, .int c.2)
def valK (st : Sl) : List (Key × V) := putK (stK st) (.inr "nil") (.int 0)
def marks (T : List Int) : List (Key × V) := T.map fun k => (.inl k, .bl true)
/-- a plain tuple of these pairs -/
def PrT (K : PySem.W.Frag) (H : Hp) (a : Addr) (kvs : List (Key × V)) : Prop := ∃ ps : List Addr, PlT H a (ps.map V.ref) ∧ Paired (fun p kv => SqT K H p [kV kv.1, kv.2]) ps kvs
theorem PrT.same {K : PySem.W.Frag} {G H : Hp} {a : Addr} {kvs : List (Key × V)} (s : Same G H) (h : PrT K G a kvs) : PrT K H a kvs := by
  obtain ⟨ps, h1, h2⟩ := h
  exact ⟨ps, h1.same s, L2.Paired.mapP h2 fun _ _ q => sameT s q⟩
theorem valV_st (t : Str) : ∀ st : Sl, valV (stK st) (.inr t) = (getS st t).map V.int
  | [] => rfl
  | c :: st => by
    have ih := valV_st t st
    by_cases e : c.1 = t
    · show valV ((.inr c.1, .int c.2) :: stK st) (.inr t) = _
      rw [valV_pos (by rw [e])]
      unfold getS
      rw [List.find?_cons, decide_eq_true e]
      rfl
    · show valV ((.inr c.1, .int c.2) :: stK st) (.inr t) = _
      rw [valV_neg (fun q => e (Sum.inr.inj q)), ih]
      unfold getS
      rw [List.find?_cons, decide_eq_false e]
theorem valV_hp (k : Int) : ∀ hp : Hl, valV (hpK hp) (.inl k) = (getH hp k).map V.int
  | [] => rfl
  | c :: hp => by
    have ih := valV_hp k hp
    by_cases e : c.1 = k
    · show valV ((.inl c.1, .int c.2) :: hpK hp) (.inl k) = _
      rw [valV_pos (by rw [e])]
      unfold getH
      rw [List.find?_cons, decide_eq_true e]
      rfl
    · show valV ((.inl c.1, .int c.2) :: hpK hp) (.inl k) = _
      rw [valV_neg (fun q => e (Sum.inl.inj q)), ih]
      unfold getH
      rw [List.find?_cons, decide_eq_false e]
theorem valV_val (st : Sl) (t : Str) : valV (valK st) (.inr t) = (worth st t).map V.int := by
  unfold valK worth
  rw [valV_put]
  by_cases h : t = "nil"
  · rw [if_pos (by rw [h]), if_pos h]
    rfl
  · rw [if_neg (fun q => h (Sum.inr.inj q)), if_neg h]
    exact valV_st t st
theorem marks_get (k : Int) : ∀ T : List Int, valV (marks T) (.inl k) = if k ∈ T then some (.bl true) else none
  | [] => rfl
  | c :: T => by
    have ih := marks_get k T
    by_cases e : c = k
    · show valV ((.inl c, .bl true) :: marks T) (.inl k) = _
      rw [valV_pos (by rw [e]), if_pos (by rw [e]; exact List.mem_cons_self)]
    · show valV ((.inl c, .bl true) :: marks T) (.inl k) = _
      rw [valV_neg (fun q => e (Sum.inl.inj q)), ih]
      by_cases h : k ∈ T
      · rw [if_pos h, if_pos (List.mem_cons_of_mem _ h)]
      · rw [if_neg h, if_neg (fun q => (List.mem_cons.mp q).elim (fun z => e z.symm) h)]
theorem marks_put {k : Int} {T : List Int} (h : ¬ k ∈ T) : putK (marks T) (.inl k) (.bl true) = marks (T ++ [k]) := by
  rw [putK_new _ (by rw [marks_get, if_neg h])]
  unfold marks
  rw [List.map_append]
  rfl
theorem valV_none {kvs : List (Key × V)} {k : Key} (h : ¬ k ∈ kvs.map (·.1)) : valV kvs k = none := by
  cases e : valV kvs k with
  | none => rfl
  | some v => exact absurd (valV_in e) h
theorem merge_on : ∀ (kvs acc : List (Key × V)), ((acc ++ kvs).map (·.1)).Nodup → mergeK acc kvs = acc ++ kvs
  | [], acc, _ => by
    rw [List.append_nil]
    rfl
  | c :: kvs, acc, h => by
    have e : acc ++ c :: kvs = (acc ++ [c]) ++ kvs := by rw [List.append_assoc]; rfl
    have hn : ¬ c.1 ∈ acc.map (·.1) := by
      rw [List.map_append, List.map_cons] at h
      have := (List.nodup_append.mp h).2.2
      exact fun q => this c.1 q c.1 List.mem_cons_self rfl
    show mergeK (putK acc c.1 c.2) kvs = _
    rw [putK_new _ (valV_none hn), e]
    rw [e] at h
    exact merge_on kvs (acc ++ [c]) h
theorem merge_nodup {kvs : List (Key × V)} (h : (kvs.map (·.1)).Nodup) : mergeK [] kvs = kvs := merge_on kvs [] h
def StOk (st : Sl) : Prop := (st.map (·.1)).Nodup ∧ st.length ≤ 1000
def HpOk (hp : Hl) : Prop := (keysH hp).Nodup ∧ hp.length ≤ 2000
theorem nodup_inl {ks : List Int} (h : ks.Nodup) : (ks.map fun k => (Sum.inl k : Key)).Nodup := by
  induction ks with
  | nil => exact List.nodup_nil
  | cons k ks ih =>
    have hc := List.nodup_cons.mp h
    rw [List.map_cons]
    refine List.nodup_cons.mpr ⟨fun q => ?_, ih hc.2⟩
    obtain ⟨x, hx, e⟩ := List.mem_map.mp q
    exact hc.1 (by rw [← Sum.inl.inj e]; exact hx)
theorem nodup_inr {ks : List Str} (h : ks.Nodup) : (ks.map fun k => (Sum.inr k : Key)).Nodup := by
  induction ks with
  | nil => exact List.nodup_nil
  | cons k ks ih =>
    have hc := List.nodup_cons.mp h
    rw [List.map_cons]
    refine List.nodup_cons.mpr ⟨fun q => ?_, ih hc.2⟩
    obtain ⟨x, hx, e⟩ := List.mem_map.mp q
    exact hc.1 (by rw [← Sum.inr.inj e]; exact hx)
theorem merge_st {st : Sl} (h : StOk st) : mergeK [] (stK st) = stK st := by
  refine merge_nodup ?_
  have := nodup_inr h.1
  rw [List.map_map] at this
  unfold stK
  rw [List.map_map]
  exact this
theorem merge_hp {hp : Hl} (h : HpOk hp) : mergeK [] (hpK hp) = hpK hp := by
  refine merge_nodup ?_
  have := nodup_inl h.1
  unfold keysH at this
  rw [List.map_map] at this
  unfold hpK
  rw [List.map_map]
  exact this
section
variable {H : Hp} {D : Addr}
theorem get_w {st : Sl} {t : Str} (hD : H D = some (.dK (valK st))) (h : Kn st t) : DGet H D (.str t) (some (.int (wF st t))) := by
  have := DGet.k (k := .inr t) hD
  rw [valV_val, h.eq] at this
  exact this
theorem get_h {hp : Hl} {k : Int} (hD : H D = some (.dK (hpK hp))) : DGet H D (.int k) ((getH hp k).map V.int) := by
  have := DGet.k (k := .inl k) hD
  rw [valV_hp] at this
  exact this
theorem get_hin {hp : Hl} {k : Int} (hD : H D = some (.dK (hpK hp))) (h : k ∈ keysH hp) : DGet H D (.int k) (some (.int (mapH hp k))) := by
  have := get_h (k := k) hD
  rw [getH_in h] at this
  exact this
theorem get_m {T : List Int} {k : Int} (hD : H D = some (.dK (marks T))) : DGet H D (.int k) (if k ∈ T then some (.bl true) else none) := by
  have := DGet.k (k := .inl k) hD
  rw [marks_get] at this
  exact this
theorem is_h {hp : Hl} {k : Int} : ((getH hp k).map V.int).isSome = decide (k ∈ keysH hp) := by
  by_cases h : k ∈ keysH hp
  · rw [getH_in h, decide_eq_true h]
    rfl
  · rw [getH_out h, decide_eq_false h]
    rfl
theorem is_m {T : List Int} {k : Int} : ((if k ∈ T then some (V.bl true) else none) : Option V).isSome = decide (k ∈ T) := by
  by_cases h : k ∈ T
  · rw [if_pos h, decide_eq_true h]
    rfl
  · rw [if_neg h, decide_eq_false h]
    rfl
theorem put_m {T : List Int} {k : Int} (hD : H D = some (.dK (marks T))) (h : ¬ k ∈ T) (hl : T.length < sizeLine) : DPut H D (.int k) (.bl true) (upd H D (.dK (marks (T ++ [k])))) := by
  have := DPut.k (k := .inl k) (v := .bl true) hD (by unfold marks; rw [List.length_map]; exact hl)
  rw [marks_put h] at this
  exact this
end
theorem iteD {c A B : Prop} [Decidable c] (h1 : c → A) (h2 : ¬ c → B) : if decide c = true then A else B := iteB (fun h => h1 (of_decide_eq_true h)) fun h => h2 (of_decide_eq_false h)
theorem iteND {c A B : Prop} [Decidable c] (h1 : ¬ c → A) (h2 : c → B) : if (!decide c) = true then A else B := iteNot (fun h => h1 (of_decide_eq_false h)) fun h => h2 (of_decide_eq_true h)
theorem int_ne {m n : Int} : (!decide (V.int m = V.int n)) = !decide (m = n) := by
  by_cases h : m = n
  · rw [h, decide_eq_true rfl, decide_eq_true rfl]
  · rw [decide_eq_false h, decide_eq_false fun q => h (vint q)]
theorem look_b {m n : Int} {x y : Str} : (!decide (V.bl (decide (V.int m = V.int n)) = V.bl (decide (V.str x = V.str y)))) = !(decide (m = n) == decide (x = y)) := by
  have e1 : decide (V.int m = V.int n) = decide (m = n) := by
    by_cases h : m = n
    · rw [h, decide_eq_true rfl, decide_eq_true rfl]
    · rw [decide_eq_false h]
      exact decide_eq_false fun q => h (vint q)
  have e2 : decide (V.str x = V.str y) = decide (x = y) := by
    by_cases h : x = y
    · rw [h, decide_eq_true rfl, decide_eq_true rfl]
    · rw [decide_eq_false h]
      exact decide_eq_false fun q => h (V.str.inj q)
  rw [e1, e2]
  cases decide (m = n) <;> cases decide (x = y) <;> rfl
theorem small2000 {n : Nat} (h : n ≤ 2000) : n < sizeLine := by
  have : 3000 ≤ sizeLine := by decide
  omega
/-- the dict of a store -/
def spVals (K : PySem.W.Frag) : Sp := fun vs H Q _ => ∃ a st, vs = [.ref a] ∧ PrT K H a (stK st) ∧ StOk st ∧ ∀ D H', Same H H' → H D = none → H' D = some (.dK (valK st)) → Q (.ref D) H'
def spLooks (K : PySem.W.Frag) : Sp := fun vs H Q _ => ∃ v D lk st, vs = [v, .ref D] ∧ Da K H v (.tuple (lk.map lrowD)) ∧ H D = some (.dK (valK st)) ∧ (∀ r ∈ lk, Kn st r.2.1 ∧ Kn st r.2.2) ∧ Q (.bl (looksF (wF st) lk)) H
def spTakes : Sp := fun vs H Q _ => ∃ a e L D hp S, vs = [.int a, .int e, .ref L, .ref D] ∧ H L = some (.dK (hpK hp)) ∧ H D = some (.dK (marks S)) ∧ L ≠ D ∧ HpOk hp ∧ Once (keysH hp) S ∧
  ∀ H', (∀ b o, b ≠ D → H b = some o → H' b = some o) → match roadF (keysH hp) (mapH hp) e a S with
    | none => Q (.bl false) H'
    | some T => H' D = some (.dK (marks T)) → Q (.bl true) H'
section
variable {P : Program} {w : World} {K : PySem.W.Frag} {mg : Str → Option Value} {base : Heap}
theorem D_values_of (T : Txt K mg) : Df P w K mg base 1 "values_of" ["store"] (spVals K) := by
  obtain ⟨f, fd, S⟩ := T.d_values_of
  refine Df.mk' (k := 0) S sc_values_of (fun vs H Q E h => ?_) (fun cdv A outer s H vs Q E hgd hr h => ?_)
  · obtain ⟨a, st, rfl, _⟩ := h
    rfl
  · obtain ⟨a, st, rfl, ⟨ps, pl, pr⟩, ok, k⟩ := h
    have hu := hu_of hr
    refine ⟨_, (pss_cons (ps_set (i := 1) sc_values_of.nd rfl (.inl rfl) (pe_callTy (call_dictPT rfl) (by rfl) T.b_dict (by decide +kernel) (pa_cons (pv 0) pa_nil)))
      (pss_cons (ps_dput hu (pv 1) pe_str pe_int rfl)
      (pss_one (ps_ret (pv 1))))), ?_⟩
    refine ⟨_, rfl, a, ps, stK st, rfl, pl, pr, fun D hD => ?_⟩
    rw [merge_st ok]
    dsimp only [gName, List.set]
    refine ⟨_, rfl, D, _, rfl, DPut.k (k := .inr "nil") upd_same (by unfold stK; rw [List.length_map]; exact small2000 (by have := ok.2; omega)), _, rfl, ?_⟩
    exact k D _ (sameOut (sameAdd hD) hD) hD upd_same
theorem D_looks_hold (T : Txt K mg) : Df P w K mg base 1 "looks_hold" ["looks", "values"] (spLooks K) := by
  obtain ⟨f, fd, S⟩ := T.d_looks_hold
  refine Df.mk' (k := 0) S sc_looks_hold (fun vs H Q E h => ?_) (fun cdv A outer s H vs Q E hgd hr h => ?_)
  · obtain ⟨v, D, lk, st, rfl, _⟩ := h
    rfl
  · obtain ⟨v, D, lk, st, rfl, hd, hD, kn, k⟩ := h
    have hu := hu_of hr
    obtain ⟨a, xs, rfl, hT, hA⟩ := hd.tupI
    have hlen := hA.length
    rw [List.length_map] at hlen
    refine ⟨_, (pss_cons (ps_for PassesOwn.never rfl (pi_tup (pv 0)) (pg_tup rfl (pgs_cons (pg_name (i := 2) sc_looks_hold.nd rfl (.inl rfl)) (pgs_cons (pg_name (i := 3) sc_looks_hold.nd rfl (.inl rfl)) (pgs_cons (pg_name (i := 4) sc_looks_hold.nd rfl (.inl rfl)) pgs_nil))))
      (pss_one (ps_if (pt_cmpR op_ne (pe_cmpR op_eq (pe_dget hu (pv 1) (pv 3) (fun _ _ => rfl)) (pe_dget hu (pv 1) (pv 4) (fun _ _ => rfl)) (nomark _)) (pe_cmpR op_eq (pv 2) pe_str (nomark _)) (nomark _)) (pss_one (ps_ret pe_bl)) pss_nil)))
      (pss_one (ps_ret pe_bl))), ?_⟩
    refine ⟨_, rfl, a, rfl, ⟨_, hT⟩, for_tup (K := K) (a := a) (xs := xs) (fun i σ H1 => ∃ o2 o3 o4, σ = [some (.ref a), some (.ref D), o2, o3, o4] ∧ H1 = H ∧ looksF (wF st) lk = looksF (wF st) (lk.drop i)) ⟨none, none, none, rfl, rfl, rfl⟩ (fun i σ H1 _ ⟨_, _, _, _, e, _⟩ => by rw [e]; exact hT) ?_ ?_⟩
    · rintro i x σ H1 hx ⟨o2, o3, o4, rfl, rfl, p2⟩
      obtain ⟨d, hd1, hd2⟩ := hA.get hx
      rw [List.getElem?_map] at hd1
      obtain ⟨r, hr1, rfl⟩ := Option.map_eq_some_iff.mp hd1
      obtain ⟨t, ys, rfl, tT, tA⟩ := hd2.tupI
      have hdrop : lk.drop i = r :: lk.drop (i + 1) := by
        obtain ⟨hi, e⟩ := List.getElem?_eq_some_iff.mp hr1
        rw [List.drop_eq_getElem_cons hi, e]
      rw [hdrop] at p2
      obtain ⟨k1, k2⟩ := kn r (List.mem_of_getElem? hr1)
      cases tA with
      | cons c1 tA =>
        cases tA with
        | cons c2 tA =>
          cases tA with
          | cons c3 tA =>
            cases tA
            cases c1.strI
            cases c2.strI
            cases c3.strI
            refine ⟨t, _, rfl, tT, rfl, _, _, rfl, _, _, rfl, _, _, rfl, rfl, ?_⟩
            refine ⟨_, rfl, _, rfl, D, _, rfl, get_w hD k1, _, rfl, _, rfl, D, _, rfl, get_w hD k2, rfl, _, rfl, rfl, rfl, _, rfl, ?_⟩
            rw [look_b]
            have e2 : looksF (wF st) (r :: lk.drop (i + 1)) = (lookF (wF st) r && looksF (wF st) (lk.drop (i + 1))) := rfl
            refine iteNot (fun hb => ?_) (fun hb => ?_)
            · have hb : lookF (wF st) r = false := hb
              rw [p2, e2, hb, Bool.false_and] at k
              exact k
            · have hb : lookF (wF st) r = true := hb
              rw [e2, hb, Bool.true_and] at p2
              exact ⟨_, _, _, rfl, rfl, p2⟩
    · rintro σ H1 ⟨o2, o3, o4, rfl, rfl, p2⟩
      rw [hlen, List.drop_length] at p2
      rw [p2] at k
      exact k
theorem D_takes_list (T : Txt K mg) : Df P w K mg base 1 "takes_list" ["at", "end", "leads", "took"] spTakes := by
  obtain ⟨f, fd, S⟩ := T.d_takes_list
  refine Df.mk' (k := 0) S sc_takes_list (fun vs H Q E h => ?_) (fun cdv A outer s H vs Q E hgd hr h => ?_)
  · obtain ⟨a, e, L, D, hp, S0, rfl, _⟩ := h
    rfl
  · obtain ⟨a0, e, L, D, hp, S0, rfl, hL, hD, nLD, ok, on, k⟩ := h
    have hu := hu_of hr
    refine ⟨_, (pss_cons (ps_while PassesOwn.never (pt_cmpR op_ne (pv 0) (pv 1) (nomark _)) (pss_cons (ps_if (PW.pt (pw_or (pt_cmp (pc_dnotin hu (pv 0) (pv 2))) (pw_or1 (pt_cmp (pc_din hu (pv 0) (pv 3)))))) (pss_one (ps_ret pe_bl)) pss_nil)
      (pss_cons (ps_dput hu (pv 3) (pv 0) pe_bl rfl)
      (pss_one (ps_set (i := 0) sc_takes_list.nd rfl (.inl rfl) (pe_dget hu (pv 2) (pv 0) (fun _ _ => rfl)))))))
      (pss_one (ps_ret pe_bl))), ?_⟩
    refine ⟨fun m σ H3 => ∃ a T, σ = [some (.int a), some (.int e), some (.ref L), some (.ref D)] ∧ m = msr (keysH hp) T ∧ Once (keysH hp) T ∧ H3 D = some (.dK (marks T)) ∧ (∀ b o, b ≠ D → H b = some o → H3 b = some o) ∧ roadF (keysH hp) (mapH hp) e a0 S0 = roadF (keysH hp) (mapH hp) e a T,
      ⟨_, a0, S0, rfl, rfl, on, hD, fun b o _ q => q, rfl⟩, ?_⟩
    rintro m σ H3 ⟨a, T, rfl, rfl, on3, hD3, kp, rd⟩
    have hL3 := kp L _ nLD hL
    rw [rd] at k
    refine ⟨_, rfl, _, rfl, rfl, _, rfl, ?_⟩
    rw [int_ne]
    refine iteND (fun hne => ?_) (fun heq => ?_)
    · refine ⟨fun σ H4 => ∃ a T2, σ = [some (.int a), some (.int e), some (.ref L), some (.ref D)] ∧ msr (keysH hp) T2 < msr (keysH hp) T ∧ Once (keysH hp) T2 ∧ H4 D = some (.dK (marks T2)) ∧ (∀ b o, b ≠ D → H b = some o → H4 b = some o) ∧ roadF (keysH hp) (mapH hp) e a0 S0 = roadF (keysH hp) (mapH hp) e a T2,
        fun σ H4 ⟨a, T2, e1, lt, r⟩ => ⟨_, lt, a, T2, e1, rfl, r⟩, ?_⟩
      refine ⟨_, rfl, _, rfl, L, _, rfl, get_h hL3, _, rfl, ?_⟩
      rw [is_h]
      have no : ¬ (a ∈ keysH hp ∧ ¬ a ∈ T) → Q (.bl false) H3 := fun hn => by
        have := k H3 kp
        rw [roadF_no hne hn] at this
        exact this
      refine iteND (fun h1 => ?_) (fun h1 => ?_)
      · exact no fun q => h1 q.1
      · refine ⟨_, rfl, _, rfl, D, _, rfl, get_m hD3, _, rfl, ?_⟩
        rw [is_m]
        refine iteD (fun h2 => ?_) (fun h2 => ?_)
        · exact no fun q => q.2 h2
        · have lT : T.length < sizeLine := by
            have := once_len on3
            have hl := ok.2
            unfold keysH at this
            rw [List.length_map] at this
            exact small2000 (by omega)
          refine ⟨_, rfl, _, rfl, D, _, rfl, put_m hD3 h2 lT, ?_⟩
          have hL4 : (upd H3 D (.dK (marks (T ++ [a])))) L = some (.dK (hpK hp)) := by rw [upd_ne nLD]; exact hL3
          refine ⟨_, rfl, _, rfl, L, _, rfl, get_hin hL4 h1, ?_⟩
          refine ⟨_, _, rfl, msr_lt h1 h2, on3.snoc h1 h2, upd_same, fun b o nb q => by rw [upd_ne nb]; exact kp b o nb q, ?_⟩
          rw [rd, roadF_on hne h1 h2]
    · have := k H3 kp
      rw [roadF_end heq] at this
      exact this hD3
end
end L2.Hx

/-! Rings and long lists: the program's clauses. -/
namespace L2.Hx
open PySem PySem.Spec PyProof.Rows
theorem str_eq {x y : Str} : decide (V.str x = V.str y) = decide (x = y) := by
  by_cases h : x = y
  · rw [h, decide_eq_true rfl, decide_eq_true rfl]
  · rw [decide_eq_false h]
    exact decide_eq_false fun q => h (V.str.inj q)
theorem int_eq {m n : Int} : decide (V.int m = V.int n) = decide (m = n) := by
  by_cases h : m = n
  · rw [h, decide_eq_true rfl, decide_eq_true rfl]
  · rw [decide_eq_false h]
    exact decide_eq_false fun q => h (vint q)
theorem drop_row {α : Type} {l : List α} {i : Nat} {x : α} (h : l[i]? = some x) : l.drop i = x :: l.drop (i + 1) := by
  obtain ⟨hi, e⟩ := List.getElem?_eq_some_iff.mp h
  rw [List.drop_eq_getElem_cons hi, e]
/-- a row of a clause, told by its address -/
theorem row_at {K : PySem.W.Frag} {H : Hp} {v : V} {r : Row} (h : Da K H v (lrowD r)) : ∃ t, v = .ref t ∧ SqT K H t [.str r.1, .str r.2.1, .str r.2.2] := by
  obtain ⟨t, ys, rfl, tT, tA⟩ := h.tupI
  cases tA with
  | cons c1 tA =>
    cases tA with
    | cons c2 tA =>
      cases tA with
      | cons c3 tA =>
        cases tA
        cases c1.strI
        cases c2.strI
        cases c3.strI
        exact ⟨t, rfl, tT⟩
theorem rows_at {K : PySem.W.Frag} {H : Hp} {v : V} {rs : List Row} (h : Da K H v (.tuple (rs.map lrowD))) : ∃ a xs, v = .ref a ∧ SqT K H a xs ∧ xs.length = rs.length ∧ ∀ (i : Nat) (x : V), xs[i]? = some x → ∃ r t, rs[i]? = some r ∧ x = .ref t ∧ SqT K H t [.str r.1, .str r.2.1, .str r.2.2] := by
  obtain ⟨a, xs, rfl, hT, hA⟩ := h.tupI
  refine ⟨a, xs, rfl, hT, by rw [hA.length, List.length_map], fun i x hx => ?_⟩
  obtain ⟨d, hd1, hd2⟩ := hA.get hx
  rw [List.getElem?_map] at hd1
  obtain ⟨r, hr1, rfl⟩ := Option.map_eq_some_iff.mp hd1
  obtain ⟨t, e, tT⟩ := row_at hd2
  exact ⟨r, t, hr1, e, tT⟩
def spTaken (K : PySem.W.Frag) : Sp := fun vs H Q _ => ∃ v Vd L lk pt st hp, vs = [v, .ref Vd, .ref L, .ref L] ∧ Da K H v (lclauseD lk pt) ∧ H Vd = some (.dK (valK st)) ∧ H L = some (.dK (hpK hp)) ∧ HpOk hp ∧ (∀ r ∈ lk, Kn st r.2.1 ∧ Kn st r.2.2) ∧ (∀ r ∈ pt, Kn st r.2.1 ∧ Kn st r.2.2) ∧
  match takenS st hp lk pt with
    | none => ∀ H', Same H H' → Q .non H'
    | some T => ∀ D H', Same H H' → H D = none → H' D = some (.dK (marks T)) → Q (.ref D) H'
section
variable {P : Program} {w : World} {K : PySem.W.Frag} {mg : Str → Option Value} {base : Heap}
theorem D_taken (T : Txt K mg) : Df P w K mg base 2 "taken" ["clause", "values", "leads", "singles"] (spTaken K) := by
  have D_looks_hold := D_looks_hold (P := P) (w := w) (base := base) T
  have D_takes_list := D_takes_list (P := P) (w := w) (base := base) T
  obtain ⟨f, fd, S⟩ := T.d_taken
  refine Df.mk' (k := 1) S sc_taken (fun vs H Q E h => ?_) (fun cdv A outer s H vs Q E hgd hr h => ?_)
  · obtain ⟨v, Vd, L, lk, pt, st, hp, rfl, _⟩ := h
    rfl
  · obtain ⟨v, Vd, L, lk, pt, st, hp, rfl, hd, hV, hL, ok, knl, knp, k⟩ := h
    have hu := hu_of hr
    have kno : takenS st hp lk pt = none → ∀ H', Same H H' → Q .non H' := fun e => by
      rw [e] at k
      exact k
    have kyes : ∀ T, takenS st hp lk pt = some T → ∀ D H', Same H H' → H D = none → H' D = some (.dK (marks T)) → Q (.ref D) H' := fun T e => by
      rw [e] at k
      exact k
    obtain ⟨a, xs, rfl, hT, hA⟩ := hd.tupI
    cases hA with
    | cons h1 hA =>
      cases hA with
      | cons h2 hA =>
        cases hA
        rename_i vl vp
        refine ⟨_, (pss_cons (ps_asg (pv 0) (pg_tup rfl (pgs_cons (pg_name (i := 4) sc_taken.nd rfl (.inl rfl)) (pgs_cons (pg_name (i := 5) sc_taken.nd rfl (.inl rfl)) pgs_nil))))
      (pss_cons (ps_if (pt_not (pt_val (pe_d D_looks_hold hgd hr (pa_cons (pv 4) (pa_cons (pv 1) pa_nil))))) (pss_one (ps_ret pe_non)) pss_nil)
      (pss_cons (ps_set (i := 6) sc_taken.nd rfl (.inl rfl) pe_dnewK)
      (pss_cons (ps_for PassesOwn.never rfl (pi_tup (pv 5)) (pg_tup rfl (pgs_cons (pg_name (i := 7) sc_taken.nd rfl (.inl rfl)) (pgs_cons (pg_name (i := 8) sc_taken.nd rfl (.inl rfl)) (pgs_cons (pg_name (i := 9) sc_taken.nd rfl (.inl rfl)) pgs_nil))))
      (pss_cons (ps_par (i := 10) (j := 11) (by rfl) sc_taken.nd rfl rfl (by decide) rfl rfl (pa_cons (pe_dget hu (pv 1) (pv 8) (fun _ _ => rfl)) (pa_cons (pe_dget hu (pv 1) (pv 9) (fun _ _ => rfl)) pa_nil)) (by rfl))
      (pss_one (ps_if (pt_cmpR op_eq (pv 7) pe_str (nomark _)) (pss_cons (ps_if (PW.pt (pw_or (pt_cmp (pc_dnotin hu (pv 10) (pv 3))) (pw_or (pt_cmp (pc_din hu (pv 10) (pv 6))) (pw_or1 (pt_cmpR op_ne (pe_dget hu (pv 2) (pv 10) (fun _ _ => rfl)) (pv 11) (nomark _)))))) (pss_one (ps_ret pe_non)) pss_nil)
      (pss_one (ps_dput hu (pv 6) (pv 10) pe_bl rfl))) (pss_one (ps_if (pt_not (pt_val (pe_d D_takes_list hgd hr (pa_cons (pv 10) (pa_cons (pv 11) (pa_cons (pv 2) (pa_cons (pv 6) pa_nil))))))) (pss_one (ps_ret pe_non)) pss_nil))))))
      (pss_one (ps_ret (pv 6))))))), ?_⟩
        refine ⟨_, rfl, a, _, rfl, hT, rfl, _, _, rfl, _, _, rfl, rfl, ?_⟩
        dsimp only [gName, List.set]
        refine ⟨_, rfl, _, rfl, vl, Vd, lk, st, rfl, h1, hV, knl, _, rfl, iteNot (fun hl => ?_) (fun hl => ?_)⟩
        · exact kno (by unfold takenS takenF; rw [if_neg (by rw [hl]; exact Bool.false_ne_true)]) H (Same.refl H)
        · have tk : takenS st hp lk pt = partsF (keysH hp) (mapH hp) (wF st) [] pt := by unfold takenS takenF; rw [if_pos hl]
          rw [tk] at kno kyes
          refine fun D hD => ?_
          obtain ⟨b, ys, rfl, bT, bl, bA⟩ := rows_at h2
          dsimp only [gName, List.set]
          refine ⟨_, rfl, b, rfl, ⟨_, sameT (sameAdd hD) bT⟩, for_tup (K := K) (a := b) (xs := ys) (fun i σ H1 => ∃ o7 o8 o9 o10 o11 Tk, σ = [some (.ref a), some (.ref Vd), some (.ref L), some (.ref L), some vl, some (.ref b), some (.ref D), o7, o8, o9, o10, o11] ∧ Same H H1 ∧ H1 D = some (.dK (marks Tk)) ∧
              Once (keysH hp) Tk ∧ partsF (keysH hp) (mapH hp) (wF st) [] pt = partsF (keysH hp) (mapH hp) (wF st) Tk (pt.drop i))
            ⟨_, _, _, _, _, [], rfl, sameAdd hD, upd_same, Once.nil, rfl⟩ (fun i σ H1 _ ⟨_, _, _, _, _, _, _, q, _⟩ => sameT q bT) ?_ ?_⟩
          · rintro i x σ H1 hx ⟨o7, o8, o9, o10, o11, Tk, rfl, q1, hD1, on, pf⟩
            obtain ⟨r, t, hr1, rfl, tT⟩ := bA i x hx
            obtain ⟨k1, k2⟩ := knp r (List.mem_of_getElem? hr1)
            rw [drop_row hr1, partsF] at pf
            have hV1 := q1 _ _ hV
            have hL1 := q1 _ _ hL
            have nLD : L ≠ D := fun e => by
              rw [e, hD] at hL
              cases hL
            refine ⟨t, _, rfl, sameT q1 tT, rfl, _, _, rfl, _, _, rfl, _, _, rfl, rfl, ?_⟩
            refine ⟨_, rfl, _, rfl, Vd, _, rfl, get_w hV1 k1, _, rfl, _, rfl, Vd, _, rfl, get_w hV1 k2, _, _, rfl, ?_⟩
            dsimp only [gName, List.set]
            have bad : partP (keysH hp) (mapH hp) (wF st) Tk r = none → ∀ H', Same H H' → Q .non H' := fun e => by
              rw [e] at pf
              exact kno pf
            refine ⟨_, rfl, rfl, _, rfl, ?_⟩
            rw [str_eq]
            refine iteD (fun hc => ?_) (fun hc => ?_)
            · have pc : partP (keysH hp) (mapH hp) (wF st) Tk r = (if wF st r.2.1 ∈ keysH hp ∧ ¬ wF st r.2.1 ∈ Tk ∧ mapH hp (wF st r.2.1) = wF st r.2.2 then some (Tk ++ [wF st r.2.1]) else none) := by
                unfold partP
                rw [if_pos hc]
              have no : ¬ (wF st r.2.1 ∈ keysH hp ∧ ¬ wF st r.2.1 ∈ Tk ∧ mapH hp (wF st r.2.1) = wF st r.2.2) → Q .non H1 := fun hn => bad (by rw [pc, if_neg hn]) H1 q1
              refine ⟨_, rfl, _, rfl, L, _, rfl, get_h hL1, _, rfl, ?_⟩
              rw [is_h]
              refine iteND (fun h1 => ?_) (fun h1 => ?_)
              · exact no fun q => h1 q.1
              · refine ⟨_, rfl, _, rfl, D, _, rfl, get_m hD1, _, rfl, ?_⟩
                rw [is_m]
                refine iteD (fun h2 => ?_) (fun h2 => ?_)
                · exact no fun q => q.2.1 h2
                · refine ⟨_, rfl, _, rfl, L, _, rfl, get_hin hL1 h1, _, rfl, rfl, _, rfl, ?_⟩
                  rw [int_ne]
                  refine iteND (fun h3 => ?_) (fun h3 => ?_)
                  · exact no fun q => h3 q.2.2
                  · have lT : Tk.length < sizeLine := by
                      have := once_len on
                      have hl := ok.2
                      unfold keysH at this
                      rw [List.length_map] at this
                      exact small2000 (by omega)
                    refine ⟨_, rfl, _, rfl, D, _, rfl, put_m hD1 h2 lT, ?_⟩
                    refine ⟨_, _, _, _, _, _, rfl, sameOut q1 hD, upd_same, on.snoc h1 h2, ?_⟩
                    rw [pf, pc, if_pos ⟨h1, h2, h3⟩]
                    rfl
            · have pc : partP (keysH hp) (mapH hp) (wF st) Tk r = roadF (keysH hp) (mapH hp) (wF st r.2.2) (wF st r.2.1) Tk := by
                unfold partP
                rw [if_neg hc]
              rw [pc] at pf bad
              refine ⟨_, rfl, _, rfl, _, rfl, _, rfl, _, _, L, D, hp, Tk, rfl, hL1, hD1, nLD, ok, on, fun H2 kp => ?_⟩
              have q2 : Same H H2 := fun b o q => kp b _ (fun e => by rw [e, hD] at q; cases q) (q1 b o q)
              cases e : roadF (keysH hp) (mapH hp) (wF st r.2.2) (wF st r.2.1) Tk with
              | none => exact ⟨_, rfl, bad e H2 q2⟩
              | some T2 =>
                rw [e] at pf
                exact fun hD2 => ⟨_, rfl, _, _, _, _, _, T2, rfl, q2, hD2, roadF_once _ _ on e, pf⟩
          · rintro σ H1 ⟨o7, o8, o9, o10, o11, Tk, rfl, q1, hD1, on, pf⟩
            rw [bl, List.drop_length] at pf
            exact ⟨_, rfl, kyes Tk pf D H1 q1 hD hD1⟩
end
end L2.Hx

/-! Rings and long lists: what the program tells. -/
namespace L2.Hx
open PySem PySem.Spec PyProof.Rows
theorem paired_len {α β : Type} {F : α → β → Prop} {xs : List α} {ys : List β} (h : Paired F xs ys) : xs.length = ys.length := h.length
theorem pairs_at {K : PySem.W.Frag} {H : Hp} {a : Addr} {hp : Hl} (h : PrT K H a (hpK hp)) : ∃ xs, PlT H a xs ∧ xs.length = hp.length ∧ ∀ (i : Nat) (x : V), xs[i]? = some x → ∃ c t, hp[i]? = some c ∧ x = .ref t ∧ SqT K H t [.int c.1, .int c.2] := by
  obtain ⟨ps, h1, h2⟩ := h
  have hl := paired_len h2
  unfold hpK at hl
  rw [List.length_map] at hl
  refine ⟨_, h1, by rw [List.length_map]; exact hl, fun i x hx => ?_⟩
  rw [List.getElem?_map] at hx
  obtain ⟨t, ht, rfl⟩ := Option.map_eq_some_iff.mp hx
  obtain ⟨y, hy, e⟩ := LiI.paired_get h2 ht
  unfold hpK at hy
  rw [List.getElem?_map] at hy
  obtain ⟨c, hc, rfl⟩ := Option.map_eq_some_iff.mp hy
  exact ⟨c, t, hc, rfl, e⟩
theorem stores_at {K : PySem.W.Frag} {H : Hp} {a : Addr} {st : Sl} (h : PrT K H a (stK st)) : ∃ xs, PlT H a xs ∧ xs.length = st.length ∧ ∀ (i : Nat) (x : V), xs[i]? = some x → ∃ c t, st[i]? = some c ∧ x = .ref t ∧ SqT K H t [.str c.1, .int c.2] := by
  obtain ⟨ps, h1, h2⟩ := h
  have hl := paired_len h2
  unfold stK at hl
  rw [List.length_map] at hl
  refine ⟨_, h1, by rw [List.length_map]; exact hl, fun i x hx => ?_⟩
  rw [List.getElem?_map] at hx
  obtain ⟨t, ht, rfl⟩ := Option.map_eq_some_iff.mp hx
  obtain ⟨y, hy, e⟩ := LiI.paired_get h2 ht
  unfold stK at hy
  rw [List.getElem?_map] at hy
  obtain ⟨c, hc, rfl⟩ := Option.map_eq_some_iff.mp hy
  exact ⟨c, t, hc, rfl, e⟩
theorem da_pair {K : PySem.W.Frag} {H : Hp} {t : Addr} {c : Int × Int} (h : SqT K H t [.int c.1, .int c.2]) : Da K H (.ref t) (pairD c) := .tup h (.cons (.int _) (.cons (.int _) .nil))
theorem da_spair {K : PySem.W.Frag} {H : Hp} {t : Addr} {c : Str × Int} (h : SqT K H t [.str c.1, .int c.2]) : Da K H (.ref t) (spairD c) := .tup h (.cons (.str _) (.cons (.int _) .nil))
theorem daAll_of {K : PySem.W.Frag} {H : Hp} {α : Type} {f : α → PyData} : ∀ {xs : List V} {cs : List α}, xs.length = cs.length → (∀ (i : Nat) (x : V), xs[i]? = some x → ∃ c, cs[i]? = some c ∧ Da K H x (f c)) → DaAll K H xs (cs.map f)
  | [], [], _, _ => .nil
  | [], _ :: _, h, _ => by cases h
  | _ :: _, [], h, _ => by cases h
  | x :: xs, c :: cs, h, hh => by
    obtain ⟨c2, e, d⟩ := hh 0 x rfl
    cases e
    exact .cons d (daAll_of (Nat.succ.inj h) fun i y hy => by
      obtain ⟨c3, e3, d3⟩ := hh (i + 1) y (by simpa using hy)
      exact ⟨c3, by simpa using e3, d3⟩)
theorem da_heap {K : PySem.W.Frag} {H : Hp} {a : Addr} {hp : Hl} (h : PrT K H a (hpK hp)) : Da K H (.ref a) (heapD hp) := by
  obtain ⟨xs, h1, h2, h3⟩ := pairs_at h
  refine .tup h1.sqT (daAll_of h2 fun i x hx => ?_)
  obtain ⟨c, t, e1, rfl, e2⟩ := h3 i x hx
  exact ⟨c, e1, da_pair e2⟩
theorem da_store {K : PySem.W.Frag} {H : Hp} {a : Addr} {st : Sl} (h : PrT K H a (stK st)) : Da K H (.ref a) (storeD st) := by
  obtain ⟨xs, h1, h2, h3⟩ := stores_at h
  refine .tup h1.sqT (daAll_of h2 fun i x hx => ?_)
  obtain ⟨c, t, e1, rfl, e2⟩ := h3 i x hx
  exact ⟨c, e1, da_spair e2⟩
abbrev KnR (st : Sl) (rs : List Row) : Prop := ∀ r ∈ rs, Kn st r.2.1 ∧ Kn st r.2.2
def spAll (K : PySem.W.Frag) : Sp := fun vs H Q _ => ∃ v Vd L lk pt st hp, vs = [v, .ref Vd, .ref L, .ref L] ∧ Da K H v (.tuple [lclauseD lk pt]) ∧ H Vd = some (.dK (valK st)) ∧ H L = some (.dK (hpK hp)) ∧ HpOk hp ∧ KnR st lk ∧ KnR st pt ∧
  ∀ H', Same H H' → Q (.bl (wholeP st hp lk pt)) H'
def spHolds (K : PySem.W.Frag) : Sp := fun vs H Q _ => ∃ v s h lk pt st hp, vs = [v, .ref s, .ref h] ∧ Da K H v (.tuple [lclauseD lk pt]) ∧ PrT K H s (stK st) ∧ PrT K H h (hpK hp) ∧ StOk st ∧ HpOk hp ∧ KnR st lk ∧ KnR st pt ∧
  ∀ H', Same H H' → Q (.bl (wholeP st hp lk pt)) H'
def spPart (K : PySem.W.Frag) : Sp := fun vs H Q _ => ∃ v s h lk pt st hp, vs = [v, .ref s, .ref h] ∧ Da K H v (lclauseD lk pt) ∧ PrT K H s (stK st) ∧ PrT K H h (hpK hp) ∧ StOk st ∧ HpOk hp ∧ KnR st lk ∧ KnR st pt ∧
  ∀ u H', Same H H' → Da K H' u (dueP st hp lk pt) → Q u H'
def spLost (K : PySem.W.Frag) : Sp := fun vs H Q _ => ∃ s h st hp, vs = [.ref s, .ref h] ∧ PrT K H s (stK st) ∧ PrT K H h (hpK hp) ∧ StOk st ∧ HpOk hp ∧ ∀ u H', Same H H' → Da K H' u (lostP st hp) → Q u H'
section
variable {P : Program} {w : World} {K : PySem.W.Frag} {mg : Str → Option Value} {base : Heap}
theorem D_takes_all (T : Txt K mg) : Df P w K mg base 3 "takes_all" ["saying", "values", "leads", "singles"] (spAll K) := by
  have D_taken := D_taken (P := P) (w := w) (base := base) T
  obtain ⟨f, fd, S⟩ := T.d_takes_all
  refine Df.mk' (k := 2) S sc_takes_all (fun vs H Q E h => ?_) (fun cdv A outer s H vs Q E hgd hr h => ?_)
  · obtain ⟨v, Vd, L, lk, pt, st, hp, rfl, _⟩ := h
    rfl
  · obtain ⟨v, Vd, L, lk, pt, st, hp, rfl, hd, hV, hL, ok, knl, knp, k⟩ := h
    obtain ⟨a, xs, rfl, hT, hA⟩ := hd.tupI
    cases hA with
    | cons h1 hA =>
      cases hA
      rename_i x0
      refine ⟨_, (pss_cons (ps_for PassesOwn.never rfl (pi_tup (pv 0)) (pg_name (i := 4) sc_takes_all.nd rfl (.inl rfl))
      (pss_cons (ps_set (i := 5) sc_takes_all.nd rfl (.inl rfl) (pe_d D_taken hgd hr (pa_cons (pv 4) (pa_cons (pv 1) (pa_cons (pv 2) (pa_cons (pv 3) pa_nil))))))
      (pss_one (ps_if (PW.pt (pw_and (pt_cmpR op_notN (pv 5) pe_non (nomark _)) (pw_and1 (pt_cmpR op_eq (pe_callB (call_lenD) (by rfl) T.b_len (by decide +kernel) (pa_cons (pv 5) pa_nil)) (pe_callB (call_lenD) (by rfl) T.b_len (by decide +kernel) (pa_cons (pv 2) pa_nil)) (nomark _))))) (pss_one (ps_ret pe_bl)) pss_nil))))
      (pss_one (ps_ret pe_bl))), ?_⟩
      refine ⟨_, rfl, a, rfl, ⟨_, hT⟩, for_tup (K := K) (a := a) (xs := [x0]) (fun i σ H1 => ∃ o4 o5, σ = [some (.ref a), some (.ref Vd), some (.ref L), some (.ref L), o4, o5] ∧ Same H H1 ∧ (i = 1 → wholeP st hp lk pt = false)) ⟨_, _, rfl, Same.refl H, fun e => by cases e⟩ (fun i σ H1 _ ⟨_, _, _, q, _⟩ => sameT q hT) ?_ ?_⟩
      · rintro i x σ H1 hx ⟨o4, o5, rfl, q1, _⟩
        have ex : x = x0 := by
          have hi := (List.getElem?_eq_some_iff.mp hx).1
          have : i = 0 := by simpa using hi
          subst this
          exact (Option.some.inj hx).symm
        subst ex
        dsimp only [gName, List.set]
        refine ⟨_, rfl, _, rfl, _, rfl, _, rfl, x, Vd, L, lk, pt, st, hp, rfl, h1.mono q1, q1 _ _ hV, q1 _ _ hL, ok, knl, knp, ?_⟩
        cases e : takenS st hp lk pt with
        | none =>
          intro H2 q2
          have ew : wholeP st hp lk pt = false := by unfold wholeP; rw [e]
          refine ⟨_, rfl, rfl, false, by simp, ?_⟩
          exact ⟨_, _, rfl, q1.trans q2, fun _ => ew⟩
        | some Tk =>
          intro D H2 q2 hD0 hD
          have ew : wholeP st hp lk pt = decide (Tk.length = hp.length) := by unfold wholeP; rw [e]
          refine ⟨_, rfl, rfl, true, by simp, ?_⟩
          refine ⟨_, rfl, D, _, rfl, hD, _, rfl, L, _, rfl, q2 _ _ (q1 _ _ hL), rfl, _, rfl, ?_⟩
          have el : decide (V.int ((marks Tk).length : Int) = V.int ((hpK hp).length : Int)) = decide (Tk.length = hp.length) := by
            unfold marks hpK
            rw [List.length_map, List.length_map, int_eq]
            by_cases h : Tk.length = hp.length
            · rw [h, decide_eq_true rfl, decide_eq_true rfl]
            · rw [decide_eq_false h]
              exact decide_eq_false (by omega)
          rw [el]
          refine iteB (fun hb => ?_) (fun hb => ?_)
          · have := k H2 (q1.trans q2)
            rw [ew, hb] at this
            exact this
          · exact ⟨_, _, rfl, q1.trans q2, fun _ => ew.trans hb⟩
      · rintro σ H1 ⟨o4, o5, rfl, q1, ew⟩
        have := k H1 q1
        rw [ew rfl] at this
        exact this
theorem DS_holds (T : Txt K mg) : DfS P w K mg base 4 "holds" s_holds ["saying", "store", "heap"] (spHolds K) := by
  have D_values_of := D_values_of (P := P) (w := w) (base := base) T
  have D_takes_all := D_takes_all (P := P) (w := w) (base := base) T
  obtain ⟨f, fd, S⟩ := T.d_holds
  refine DfS.mk' (k := 3) S sc_holds (fun vs H Q E h => ?_) (fun cdv A outer s H vs Q E hgd hr h => ?_)
  · obtain ⟨v, s, h, lk, pt, st, hp, rfl, _⟩ := h
    rfl
  · obtain ⟨v, sa, ha, lk, pt, st, hp, rfl, hd, hs, hh, oks, ok, knl, knp, k⟩ := h
    refine ⟨_, (pss_cons (ps_set (i := 3) sc_holds.nd rfl (.inl rfl) (pe_callTy (call_dictPT rfl) (by rfl) T.b_dict (by decide +kernel) (pa_cons (pv 2) pa_nil)))
      (pss_one (ps_ret (pe_d D_takes_all hgd hr (pa_cons (pv 0) (pa_cons (pe_d D_values_of hgd hr (pa_cons (pv 1) pa_nil)) (pa_cons (pv 3) (pa_cons (pv 3) pa_nil)))))))), ?_⟩
    obtain ⟨ps, pl, pr⟩ := hh
    refine ⟨_, rfl, ha, ps, hpK hp, rfl, pl, pr, fun L hL => ?_⟩
    rw [merge_hp ok]
    have qL : Same H (upd H L (.dK (hpK hp))) := sameAdd hL
    have hL1 : (upd H L (.dK (hpK hp))) L = some (.dK (hpK hp)) := upd_same
    dsimp only [gName, List.set]
    generalize upd H L (.dK (hpK hp)) = H1 at qL hL1 ⊢
    refine ⟨_, rfl, _, rfl, sa, st, rfl, hs.same qL, oks, fun Vd H2 q2 _ hV => ⟨_, rfl, _, rfl, ?_⟩⟩
    exact ⟨v, Vd, L, lk, pt, st, hp, rfl, hd.mono (qL.trans q2), hV, q2 _ _ hL1, ok, knl, knp, fun H3 q3 => k H3 ((qL.trans q2).trans q3)⟩
theorem DS_part_of (T : Txt K mg) : DfS P w K mg base 3 "part_of" s_part_of ["clause", "store", "heap"] (spPart K) := by
  have D_values_of := D_values_of (P := P) (w := w) (base := base) T
  have D_taken := D_taken (P := P) (w := w) (base := base) T
  obtain ⟨f, fd, S⟩ := T.d_part_of
  refine DfS.mk' (k := 2) S sc_part_of (fun vs H Q E h => ?_) (fun cdv A outer s H vs Q E hgd hr h => ?_)
  · obtain ⟨v, s, h, lk, pt, st, hp, rfl, _⟩ := h
    rfl
  · obtain ⟨v, sa, ha, lk, pt, st, hp, rfl, hd, hs, hh, oks, ok, knl, knp, k⟩ := h
    have hu := hu_of hr
    refine ⟨_, (pss_cons (ps_set (i := 3) sc_part_of.nd rfl (.inl rfl) (pe_callTy (call_dictPT rfl) (by rfl) T.b_dict (by decide +kernel) (pa_cons (pv 2) pa_nil)))
      (pss_cons (ps_set (i := 4) sc_part_of.nd rfl (.inr rfl) (pe_d D_taken hgd hr (pa_cons (pv 0) (pa_cons (pe_d D_values_of hgd hr (pa_cons (pv 1) pa_nil)) (pa_cons (pv 3) (pa_cons (pv 3) pa_nil))))))
      (pss_cons (ps_if (pt_cmpR op_isN (pv 4) pe_non (nomark _)) (pss_one (ps_ret pe_non)) pss_nil)
      (pss_one (ps_ret (pe_callTy call_tuple_of (by rfl) T.b_tuple (by decide +kernel) (pa_cons (pe_lc (own := [("cell", 5)]) (g := gName 5) (tt := tB (tDIn (tOp (rIxT K) (tVar 5) (tC (.int 0))) (tVar 4))) (te := tVar 5) rfl sc_part_of.nd (pi_tup (pv 2)) (blkOk_by (own := [("cell", 5)]) (N := ["clause", "store", "heap", "cells", "took", "cell"]) (sc := defScope s_part_of) (by decide +kernel)) (fun _ _ _ _ _ => pg_name (i := 5) sc_part_of.nd rfl (.inl rfl)) (fun _ _ _ _ _ => (pts_one (pt_cmp (pc_din hu (pe_ix ix_tup (pv 5) pe_int (fun _ _ => rfl)) (pv 4))))) (fun _ _ _ _ _ => (pv 5))) pa_nil))))))), ?_⟩
    obtain ⟨ys, yP, yl, yA⟩ := pairs_at hh
    obtain ⟨ps, pl, pr⟩ := hh
    refine ⟨_, rfl, ha, ps, hpK hp, rfl, pl, pr, fun L hL => ?_⟩
    rw [merge_hp ok]
    have qL : Same H (upd H L (.dK (hpK hp))) := sameAdd hL
    have hL1 : (upd H L (.dK (hpK hp))) L = some (.dK (hpK hp)) := upd_same
    dsimp only [gName, List.set]
    generalize upd H L (.dK (hpK hp)) = H1 at qL hL1 ⊢
    refine ⟨_, rfl, _, rfl, sa, st, rfl, hs.same qL, oks, fun Vd H2 q2 _ hV => ⟨_, rfl, _, rfl, ?_⟩⟩
    have q02 := qL.trans q2
    refine ⟨v, Vd, L, lk, pt, st, hp, rfl, hd.mono q02, hV, q2 _ _ hL1, ok, knl, knp, ?_⟩
    cases e : takenS st hp lk pt with
    | none =>
      intro H3 q3
      have ed : dueP st hp lk pt = .none := by unfold dueP; rw [e]
      refine ⟨_, rfl, rfl, true, by simp, ?_⟩
      refine k _ _ (q02.trans q3) ?_
      rw [ed]
      exact .non
    | some Tk =>
      intro D H3 q3 hD0 hD
      have ed : dueP st hp lk pt = heapD (hp.filter fun c => decide (c.1 ∈ Tk)) := by unfold dueP; rw [e]
      refine ⟨_, rfl, rfl, false, by simp, ?_⟩
      have q03 := q02.trans q3
      dsimp only [gName, List.set]
      refine ⟨_, rfl, ha, rfl, ⟨_, sameT q03 yP.sqT⟩, fun N hN => lc_tup (K := K) (a := ha) (xs := ys) (fun i H4 => Same H3 H4 ∧ ∃ us, H4 N = some (.lst us) ∧ us.length ≤ i ∧ DaAll K H us (((hp.take i).filter fun c => decide (c.1 ∈ Tk)).map pairD)) ⟨sameAdd hN, [], upd_same, Nat.le_refl _, .nil⟩ (fun i H4 _ q => sameT (q03.trans q.1) yP.sqT) ?_ ?_⟩
      · rintro i x H4 hx ⟨q4, us, hN4, ul, uA⟩
        obtain ⟨c, t, hc, rfl, tT⟩ := yA i x hx
        have hi := (List.getElem?_eq_some_iff.mp hc).1
        have et : ((hp.take (i + 1)).filter fun c => decide (c.1 ∈ Tk)) = ((hp.take i).filter fun c => decide (c.1 ∈ Tk)) ++ if decide (c.1 ∈ Tk) = true then [c] else [] := by
          rw [List.take_add_one, hc, Option.toList_some, List.filter_append, List.filter_cons, List.filter_nil]
        refine ⟨rfl, _, rfl, t, _, 0, .int c.1, rfl, rfl, sameT (q03.trans q4) tT, rfl, _, rfl, D, _, rfl, get_m (q4 _ _ hD), _, rfl, ?_⟩
        rw [is_m]
        refine iteB (fun hb => ?_) (fun hb => ?_)
        · rw [if_pos hb] at et
          refine ⟨_, rfl, us, hN4, ?_, sameOut q4 hN, _, upd_same, by rw [List.length_append]; exact Nat.add_le_add_right ul 1, ?_⟩
          · have := ok.2
            exact small2000 (by omega)
          · rw [et, List.map_append]
            exact uA.append (.cons (da_pair tT) .nil)
        · rw [if_neg (by rw [hb]; exact Bool.false_ne_true), List.append_nil] at et
          exact ⟨q4, us, hN4, Nat.le_succ_of_le ul, by rw [et]; exact uA⟩
      · rintro H4 ⟨q4, us, hN4, ul, uA⟩
        rw [yl, List.take_length] at uA
        refine ⟨N, us, rfl, .inl ⟨SqL.of hN4, fun l hl => ?_⟩⟩
        have q5 := (q03.trans q4).trans (sameAdd (o := .tup us) hl)
        refine k _ _ q5 ?_
        rw [ed]
        exact .tup (SqT.of upd_same) (uA.mono q5)
theorem DS_lost (T : Txt K mg) : DfS P w K mg base 1 "lost" s_lost ["store", "heap"] (spLost K) := by
  obtain ⟨f, fd, S⟩ := T.d_lost
  refine DfS.mk' (k := 0) S sc_lost (fun vs H Q E h => ?_) (fun cdv A outer s H vs Q E hgd hr h => ?_)
  · obtain ⟨s, h, st, hp, rfl, _⟩ := h
    rfl
  · obtain ⟨sa, ha, st, hp, rfl, hs, hh, oks, ok, k⟩ := h
    have hu := hu_of hr
    refine ⟨_, (pss_cons (ps_set (i := 2) sc_lost.nd rfl (.inl rfl) (pe_callTy (call_dictPT rfl) (by rfl) T.b_dict (by decide +kernel) (pa_cons (pv 1) pa_nil)))
      (pss_cons (ps_set (i := 3) sc_lost.nd rfl (.inr rfl) pe_dnewK)
      (pss_cons (ps_for PassesOwn.never rfl (pi_tup (pv 0)) (pg_tup rfl (pgs_cons (pg_name (i := 4) sc_lost.nd rfl (.inl rfl)) (pgs_cons (pg_name (i := 5) sc_lost.nd rfl (.inl rfl)) pgs_nil)))
      (pss_cons (ps_set (i := 6) sc_lost.nd rfl (.inl rfl) (pv 5))
      (pss_one (ps_while PassesOwn.never (PW.pt (pw_and (pt_cmp (pc_din hu (pv 6) (pv 2))) (pw_and1 (pt_cmp (pc_dnotin hu (pv 6) (pv 3)))))) (pss_cons (ps_dput hu (pv 3) (pv 6) pe_bl rfl)
      (pss_one (ps_set (i := 6) sc_lost.nd rfl (.inl rfl) (pe_dget hu (pv 2) (pv 6) (fun _ _ => rfl)))))))))
      (pss_one (ps_ret (pe_callTy call_tuple_of (by rfl) T.b_tuple (by decide +kernel) (pa_cons (pe_lc (X := (cxOf CX0 P w K mg base ["store", "heap", "cells", "reached", "_", "value", "at", "address"] "lost" (defScope s_lost) f cdv A outer s H E).nox) (own := [("address", 7), ("_", 4)]) (g := gTup K 2 (gCons (gName 7) (gCons (gName 4) gNil))) (tt := tB (tDNotIn (tVar 7) (tVar 3))) (te := tVar 7) rfl sc_lost.nd (pi_tup (pv 1)) (blkOk_by (own := [("address", 7), ("_", 4)]) (N := ["store", "heap", "cells", "reached", "_", "value", "at", "address"]) (sc := defScope s_lost) (by decide +kernel)) (fun _ _ _ _ _ => pg_tup rfl (pgs_cons (pg_name (i := 7) sc_lost.nd rfl (.inl rfl)) (pgs_cons (pg_name (i := 4) sc_lost.nd rfl (.inl rfl)) pgs_nil))) (fun _ _ _ _ _ => (pts_one (pt_cmp (pc_dnotin hu (pv 7) (pv 3))))) (fun _ _ _ _ _ => (pv 7))) pa_nil))))))), ?_⟩
    obtain ⟨ys, yP, yl, yA⟩ := pairs_at hh
    obtain ⟨zs, zP, zl, zA⟩ := stores_at hs
    obtain ⟨ps, pl, pr⟩ := hh
    refine ⟨_, rfl, ha, ps, hpK hp, rfl, pl, pr, fun L hL => ?_⟩
    rw [merge_hp ok]
    have qL : Same H (upd H L (.dK (hpK hp))) := sameAdd hL
    have hL1 : (upd H L (.dK (hpK hp))) L = some (.dK (hpK hp)) := upd_same
    dsimp only [gName, List.set]
    generalize upd H L (.dK (hpK hp)) = H1 at qL hL1 ⊢
    refine fun D hD => ?_
    have nLD : L ≠ D := fun e => by
      rw [e, hD] at hL1
      cases hL1
    dsimp only [gName, List.set]
    refine ⟨_, rfl, sa, rfl, ⟨_, sameT (qL.trans (sameAdd hD)) zP.sqT⟩, for_tup (K := K) (a := sa) (xs := zs) (fun i σ H2 => ∃ o4 o5 o6 o7 Tk, σ = [some (.ref sa), some (.ref ha), some (.ref L), some (.ref D), o4, o5, o6, o7] ∧ Same H1 H2 ∧ H2 D = some (.dK (marks Tk)) ∧
        Once (keysH hp) Tk ∧ metP hp st [] = metP hp (st.drop i) Tk) ⟨_, _, _, _, [], rfl, sameAdd hD, upd_same, Once.nil, rfl⟩ (fun i σ H2 _ ⟨_, _, _, _, _, _, q, _⟩ => sameT (qL.trans q) zP.sqT) ?_ ?_⟩
    · rintro i x σ H2 hx ⟨o4, o5, o6, o7, Tk, rfl, q2, hD2, on, mt⟩
      obtain ⟨c, t, hc, rfl, tT⟩ := zA i x hx
      rw [drop_row hc, metP] at mt
      refine ⟨t, _, rfl, sameT (qL.trans q2) tT, rfl, _, _, rfl, _, _, rfl, rfl, ?_⟩
      dsimp only [gName, List.set]
      refine ⟨_, rfl, ?_⟩
      dsimp only [gName, List.set]
      refine ⟨fun m σ H3 => ∃ v T2, σ = [some (.ref sa), some (.ref ha), some (.ref L), some (.ref D), some (.str c.1), some (.int c.2), some (.int v), o7] ∧ m = msr (keysH hp) T2 ∧ Same H1 H3 ∧ H3 D = some (.dK (marks T2)) ∧ Once (keysH hp) T2 ∧
          reachF (keysH hp) (mapH hp) c.2 Tk = reachF (keysH hp) (mapH hp) v T2, ⟨_, c.2, Tk, rfl, rfl, q2, hD2, on, rfl⟩, ?_⟩
      rintro m σ H3 ⟨v, T2, rfl, rfl, q3, hD3, on3, rc⟩
      have hL3 := q3 _ _ hL1
      have stop : ¬ (v ∈ keysH hp ∧ ¬ v ∈ T2) → ∃ o4 o5 o6 o7' Tk, ([some (.ref sa), some (.ref ha), some (.ref L), some (.ref D), some (.str c.1), some (.int c.2), some (.int v), o7] : St) = [some (.ref sa), some (.ref ha), some (.ref L), some (.ref D), o4, o5, o6, o7'] ∧ Same H1 H3 ∧ H3 D = some (.dK (marks Tk)) ∧
          Once (keysH hp) Tk ∧ metP hp st [] = metP hp (st.drop (i + 1)) Tk := fun hn => by
        rw [reachF_no hn] at rc
        exact ⟨_, _, _, _, T2, rfl, q3, hD3, on3, by rw [mt, rc]⟩
      refine ⟨_, rfl, _, rfl, L, _, rfl, get_h hL3, _, rfl, ?_⟩
      rw [is_h]
      refine iteD (fun h1 => ?_) (fun h1 => ?_)
      · refine ⟨_, rfl, _, rfl, D, _, rfl, get_m hD3, _, rfl, ?_⟩
        rw [is_m]
        refine iteND (fun h2 => ?_) (fun h2 => ?_)
        · refine ⟨fun σ H4 => ∃ v T3, σ = [some (.ref sa), some (.ref ha), some (.ref L), some (.ref D), some (.str c.1), some (.int c.2), some (.int v), o7] ∧ msr (keysH hp) T3 < msr (keysH hp) T2 ∧ Same H1 H4 ∧ H4 D = some (.dK (marks T3)) ∧ Once (keysH hp) T3 ∧
              reachF (keysH hp) (mapH hp) c.2 Tk = reachF (keysH hp) (mapH hp) v T3, fun σ H4 ⟨v, T3, e1, lt, r⟩ => ⟨_, lt, v, T3, e1, rfl, r⟩, ?_⟩
          have lT : T2.length < sizeLine := by
            have := once_len on3
            have hl := ok.2
            unfold keysH at this
            rw [List.length_map] at this
            exact small2000 (by omega)
          refine ⟨_, rfl, _, rfl, D, _, rfl, put_m hD3 h2 lT, ?_⟩
          have hL4 : (upd H3 D (.dK (marks (T2 ++ [v])))) L = some (.dK (hpK hp)) := by rw [upd_ne nLD]; exact hL3
          refine ⟨_, rfl, _, rfl, L, _, rfl, get_hin hL4 h1, ?_⟩
          exact ⟨_, _, rfl, msr_lt h1 h2, sameOut q3 hD, upd_same, on3.snoc h1 h2, by rw [rc, reachF_on h1 h2]⟩
        · exact stop fun q => q.2 h2
      · exact stop fun q => h1 q.1
    · rintro σ H2 ⟨o4, o5, o6, o7, Tk, rfl, q2, hD2, on, mt⟩
      rw [zl, List.drop_length] at mt
      have mt : metP hp st [] = Tk := mt
      have q02 := qL.trans q2
      dsimp only [gName, List.set]
      refine ⟨_, rfl, ha, rfl, ⟨_, sameT q02 yP.sqT⟩, fun N hN => lc_tup (K := K) (a := ha) (xs := ys) (fun i H4 => Same H2 H4 ∧ H4 N = some (.lst (((hp.take i).filter fun c => !decide (c.1 ∈ Tk)).map fun c => V.int c.1))) ⟨sameAdd hN, upd_same⟩ (fun i H4 _ q => sameT (q02.trans q.1) yP.sqT) ?_ ?_⟩
      · rintro i x H4 hx ⟨q4, hN4⟩
        obtain ⟨c, t, hc, rfl, tT⟩ := yA i x hx
        have hi := (List.getElem?_eq_some_iff.mp hc).1
        have et : ((hp.take (i + 1)).filter fun c => !decide (c.1 ∈ Tk)) = ((hp.take i).filter fun c => !decide (c.1 ∈ Tk)) ++ if (!decide (c.1 ∈ Tk)) = true then [c] else [] := by
          rw [List.take_add_one, hc, Option.toList_some, List.filter_append, List.filter_cons, List.filter_nil]
        refine ⟨t, _, rfl, sameT (q02.trans q4) tT, rfl, _, _, rfl, _, _, rfl, rfl, ?_⟩
        refine ⟨rfl, _, rfl, _, rfl, D, _, rfl, get_m (q4 _ _ hD2), _, rfl, ?_⟩
        rw [is_m]
        refine iteB (fun hb => ?_) (fun hb => ?_)
        · rw [if_pos hb] at et
          refine ⟨_, rfl, _, hN4, ?_, sameOut q4 hN, ?_⟩
          · rw [List.length_map]
            have := ok.2
            have h2 := List.length_filter_le (fun c : Int × Int => !decide (c.1 ∈ Tk)) (hp.take i)
            rw [List.length_take] at h2
            exact small2000 (by omega)
          · rw [upd_same, et, List.map_append]
            rfl
        · rw [if_neg (by rw [hb]; exact Bool.false_ne_true), List.append_nil] at et
          exact ⟨q4, by rw [et]; exact hN4⟩
      · rintro H4 ⟨q4, hN4⟩
        rw [yl, List.take_length] at hN4
        refine ⟨N, _, rfl, .inl ⟨SqL.of hN4, fun l hl => ?_⟩⟩
        refine k _ _ ((q02.trans q4).trans (sameAdd hl)) ?_
        unfold lostP
        rw [mt]
        refine .tup (SqT.of upd_same) (daAll_of (by rw [List.length_map]) fun i x hx => ?_)
        rw [List.getElem?_map] at hx
        obtain ⟨c, hc, rfl⟩ := Option.map_eq_some_iff.mp hx
        exact ⟨c, hc, .int _⟩
end
end L2.Hx

/-! Rings and long lists: the law's looks and roads. -/
namespace L2.Hx
open PySem PySem.Spec PyProof.Rows
theorem inV_int {a : Int} : ∀ T : List Int, inV (.int a) (T.map V.int) = decide (a ∈ T)
  | [] => rfl
  | t :: T => by
    have ih := inV_int (a := a) T
    show (eqV (.int t) (.int a) || inV (.int a) (T.map V.int)) = _
    rw [ih]
    have e : eqV (.int t) (.int a) = decide (a = t) := by
      show (t == a) = _
      by_cases h : a = t
      · rw [h, decide_eq_true rfl]
        exact beq_self_eq_true t
      · rw [decide_eq_false h]
        exact beq_eq_false_iff_ne.mpr fun q => h q.symm
    rw [e]
    by_cases h1 : a = t
    · have hm : a ∈ t :: T := by
        rw [h1]
        exact List.mem_cons_self
      rw [decide_eq_true h1, decide_eq_true hm]
      rfl
    · by_cases h2 : a ∈ T
      · rw [decide_eq_true h2, decide_eq_true (List.mem_cons_of_mem _ h2), Bool.or_true]
      · rw [decide_eq_false h1, decide_eq_false h2, decide_eq_false fun q => (List.mem_cons.mp q).elim h1 h2]
        rfl
theorem flat_ints : ∀ T : List Int, (T.map V.int).all flatV = true
  | [] => rfl
  | t :: T => by
    rw [List.map_cons, List.all_cons, flat_ints T]
    rfl
def spWorth (K : PySem.W.Frag) : Sp := fun vs H Q _ => ∃ s t st, vs = [.ref s, .str t] ∧ PrT K H s (stK st) ∧ StOk st ∧ Kn st t ∧ ∀ H', Same H H' → Q (.int (wF st t)) H'
def spTrue (K : PySem.W.Frag) : Sp := fun vs H Q _ => ∃ v s lk pt st, vs = [v, .ref s] ∧ Da K H v (lclauseD lk pt) ∧ PrT K H s (stK st) ∧ StOk st ∧ KnR st lk ∧ ∀ H', Same H H' → Q (.bl (looksF (wF st) lk)) H'
def spRoad (K : PySem.W.Frag) : Sp := fun vs H Q _ => ∃ v s h r st hp, vs = [v, .ref s, .ref h] ∧ Da K H v (lrowD r) ∧ PrT K H s (stK st) ∧ PrT K H h (hpK hp) ∧ StOk st ∧ HpOk hp ∧ Kn st r.2.1 ∧ Kn st r.2.2 ∧
  match partR (keysH hp) (mapH hp) (wF st) r with
    | none => ∀ H', Same H H' → Q .non H'
    | some T => ∀ N H', Same H H' → H N = none → H' N = some (.lst (T.map V.int)) → Q (.ref N) H'
section
variable {P : Program} {w : World} {K : PySem.W.Frag} {mg : Str → Option Value} {base : Heap}
theorem D_l_worth (T : Txt K mg) : Df P w K mg base 1 "_law_worth" ["store", "term"] (spWorth K) := by
  obtain ⟨f, fd, S⟩ := T.d_l_worth
  refine Df.mk' (k := 0) S sc_l_worth (fun vs H Q E h => ?_) (fun cdv A outer s H vs Q E hgd hr h => ?_)
  · obtain ⟨s, t, st, rfl, _⟩ := h
    rfl
  · obtain ⟨sa, t, st, rfl, ⟨ps, pl, pr⟩, oks, kn, k⟩ := h
    have hu := hu_of hr
    refine ⟨_, (pss_one (ps_ret (pe_ifExp (pt_cmpR op_eq (pv 1) pe_str (nomark _)) pe_int (pe_dget hu (pe_callTy (call_dictPT rfl) (by rfl) T.b_dict (by decide +kernel) (pa_cons (pv 0) pa_nil)) (pv 1) (fun _ _ => rfl))))), ?_⟩
    have kw := kn.eq
    refine ⟨_, rfl, rfl, _, rfl, ?_⟩
    rw [str_eq]
    refine iteD (fun hn => ?_) (fun hn => ?_)
    · have e : wF st t = 0 := by
        unfold worth at kw
        rw [if_pos hn] at kw
        exact (Option.some.inj kw).symm
      have := k H (Same.refl H)
      rw [e] at this
      exact this
    · refine ⟨_, rfl, sa, ps, stK st, rfl, pl, pr, fun D hD => ?_⟩
      rw [merge_st oks]
      have g : DGet (upd H D (.dK (stK st))) D (.str t) (some (.int (wF st t))) := by
        have := DGet.k (k := .inr t) (H := upd H D (.dK (stK st))) (a := D) upd_same
        unfold worth at kw
        rw [if_neg hn] at kw
        rw [valV_st, kw] at this
        exact this
      exact ⟨_, rfl, D, _, rfl, g, k _ (sameAdd hD)⟩
theorem D_l_looks_true (T : Txt K mg) : Df P w K mg base 2 "_law_looks_true" ["clause", "store"] (spTrue K) := by
  have D_l_worth := D_l_worth (P := P) (w := w) (base := base) T
  obtain ⟨f, fd, S⟩ := T.d_l_looks_true
  refine Df.mk' (k := 1) S sc_l_looks_true (fun vs H Q E h => ?_) (fun cdv A outer s H vs Q E hgd hr h => ?_)
  · obtain ⟨v, s, lk, pt, st, rfl, _⟩ := h
    rfl
  · obtain ⟨v, sa, lk, pt, st, rfl, hd, hs, oks, kn, k⟩ := h
    obtain ⟨a, xs, rfl, hT, hA⟩ := hd.tupI
    cases hA with
    | cons h1 hA =>
      cases hA with
      | cons h2 hA =>
        cases hA
        obtain ⟨b, ys, rfl, bT, bl, bA⟩ := rows_at h1
        refine ⟨_, (pss_cons (ps_for PassesOwn.never rfl (pi_tup (pe_ix ix_tup (pv 0) pe_int (fun _ _ => rfl))) (pg_tup rfl (pgs_cons (pg_name (i := 2) sc_l_looks_true.nd rfl (.inl rfl)) (pgs_cons (pg_name (i := 3) sc_l_looks_true.nd rfl (.inl rfl)) (pgs_cons (pg_name (i := 4) sc_l_looks_true.nd rfl (.inl rfl)) pgs_nil))))
      (pss_one (ps_if (pt_cmpR op_ne (pe_cmpR op_eq (pe_d D_l_worth hgd hr (pa_cons (pv 1) (pa_cons (pv 3) pa_nil))) (pe_d D_l_worth hgd hr (pa_cons (pv 1) (pa_cons (pv 4) pa_nil))) (nomark _)) (pe_cmpR op_eq (pv 2) pe_str (nomark _)) (nomark _)) (pss_one (ps_ret pe_bl)) pss_nil)))
      (pss_one (ps_ret pe_bl))), ?_⟩
        refine ⟨_, rfl, a, _, 0, .ref b, rfl, rfl, hT, rfl, b, rfl, ⟨_, bT⟩, for_tup (K := K) (a := b) (xs := ys) (fun i σ H1 => ∃ o2 o3 o4, σ = [some (.ref a), some (.ref sa), o2, o3, o4] ∧ Same H H1 ∧ looksF (wF st) lk = looksF (wF st) (lk.drop i)) ⟨none, none, none, rfl, Same.refl H, rfl⟩ (fun i σ H1 _ ⟨_, _, _, _, q, _⟩ => sameT q bT) ?_ ?_⟩
        · rintro i x σ H1 hx ⟨o2, o3, o4, rfl, q1, p2⟩
          obtain ⟨r, t, hr1, rfl, tT⟩ := bA i x hx
          obtain ⟨k1, k2⟩ := kn r (List.mem_of_getElem? hr1)
          rw [drop_row hr1] at p2
          have e2 : looksF (wF st) (r :: lk.drop (i + 1)) = (lookF (wF st) r && looksF (wF st) (lk.drop (i + 1))) := rfl
          refine ⟨t, _, rfl, sameT q1 tT, rfl, _, _, rfl, _, _, rfl, _, _, rfl, rfl, ?_⟩
          refine ⟨_, rfl, _, rfl, sa, _, st, rfl, hs.same q1, oks, k1, fun H2 q2 => ?_⟩
          refine ⟨_, rfl, _, rfl, sa, _, st, rfl, hs.same (q1.trans q2), oks, k2, fun H3 q3 => ?_⟩
          refine ⟨rfl, _, rfl, rfl, rfl, _, rfl, ?_⟩
          rw [look_b]
          have q123 := (q1.trans q2).trans q3
          refine iteNot (fun hb => ?_) (fun hb => ?_)
          · have hb : lookF (wF st) r = false := hb
            have := k H3 q123
            rw [p2, e2, hb, Bool.false_and] at this
            exact this
          · have hb : lookF (wF st) r = true := hb
            rw [e2, hb, Bool.true_and] at p2
            exact ⟨_, _, _, rfl, q123, p2⟩
        · rintro σ H1 ⟨o2, o3, o4, rfl, q1, p2⟩
          rw [bl, List.drop_length] at p2
          have := k H1 q1
          rw [p2] at this
          exact this
theorem D_l_road (T : Txt K mg) : Df P w K mg base 2 "_law_road" ["part", "store", "heap"] (spRoad K) := by
  have D_l_worth := D_l_worth (P := P) (w := w) (base := base) T
  obtain ⟨f, fd, S⟩ := T.d_l_road
  refine Df.mk' (k := 1) S sc_l_road (fun vs H Q E h => ?_) (fun cdv A outer s H vs Q E hgd hr h => ?_)
  · obtain ⟨v, s, h, r, st, hp, rfl, _⟩ := h
    rfl
  · obtain ⟨v, sa, ha, r, st, hp, rfl, hd, hs, hh, oks, ok, k1, k2, k⟩ := h
    have hu := hu_of hr
    have kno : partR (keysH hp) (mapH hp) (wF st) r = none → ∀ H', Same H H' → Q .non H' := fun e => by
      rw [e] at k
      exact k
    have kyes : ∀ T, partR (keysH hp) (mapH hp) (wF st) r = some T → ∀ N H', Same H H' → H N = none → H' N = some (.lst (T.map V.int)) → Q (.ref N) H' := fun T e => by
      rw [e] at k
      exact k
    obtain ⟨t, rfl, tT⟩ := row_at hd
    refine ⟨_, (pss_cons (ps_par (i := 3) (j := 4) (by rfl) sc_l_road.nd rfl rfl (by decide) rfl rfl (pa_cons (pe_d D_l_worth hgd hr (pa_cons (pv 1) (pa_cons (pe_ix ix_tup (pv 0) pe_int (fun _ _ => rfl)) pa_nil))) (pa_cons (pe_d D_l_worth hgd hr (pa_cons (pv 1) (pa_cons (pe_ix ix_tup (pv 0) pe_int (fun _ _ => rfl)) pa_nil))) pa_nil)) (by rfl))
      (pss_cons (ps_par (i := 5) (j := 6) (by rfl) sc_l_road.nd rfl rfl (by decide) rfl rfl (pa_cons (pe_callTy (call_dictPT rfl) (by rfl) T.b_dict (by decide +kernel) (pa_cons (pv 2) pa_nil)) (pa_cons (pe_lst pa_nil) pa_nil)) (by rfl))
      (pss_cons (ps_if (pt_cmpR op_eq (pe_ix ix_tup (pv 0) pe_int (fun _ _ => rfl)) pe_str (nomark _)) (pss_one (ps_ret (pe_ifExp (pt_cmpR op_eq (pe_dget1 hu (pv 5) (pv 3) ⟨by rfl, by rfl, by rfl, by rfl⟩) (pv 4) (nomark _)) (pe_lst (pa_cons (pv 3) pa_nil)) pe_non))) pss_nil)
      (pss_cons (ps_while PassesOwn.never (pt_cmpR op_ne (pv 3) (pv 4) (nomark _)) (pss_cons (ps_if (PW.pt (pw_or (pt_cmp (pc_dnotin hu (pv 3) (pv 5))) (pw_or1 (pt_cmpR op_in_seq (pv 3) (pv 6) (by rfl))))) (pss_one (ps_ret pe_non)) pss_nil)
      (pss_cons (ps_expr (pe_bm PySem.F.plainAttrs_list PySem.F.slot_list_append PySem.F.type_list_append mt_append (pv 6) (pa_cons (pv 3) pa_nil)))
      (pss_one (ps_set (i := 3) sc_l_road.nd rfl (.inl rfl) (pe_dget hu (pv 5) (pv 3) (fun _ _ => rfl)))))))
      (pss_one (ps_ret (pv 6))))))), ?_⟩
    refine ⟨_, rfl, _, rfl, t, _, 1, .str r.2.1, rfl, rfl, tT, rfl, sa, _, st, rfl, hs, oks, k1, fun H1 q1 => ?_⟩
    refine ⟨_, rfl, _, rfl, t, _, 2, .str r.2.2, rfl, rfl, sameT q1 tT, rfl, sa, _, st, rfl, hs.same q1, oks, k2, fun H2 q2 => ⟨_, _, rfl, ?_⟩⟩
    dsimp only [gName, List.set]
    have q02 := q1.trans q2
    obtain ⟨ps, pl, pr⟩ := hh.same q02
    refine ⟨_, rfl, ha, ps, hpK hp, rfl, pl, pr, fun L hL => ?_⟩
    rw [merge_hp ok]
    refine ⟨Nat.zero_le _, fun N hN => ⟨_, _, rfl, ?_⟩⟩
    dsimp only [gName, List.set]
    have nLN : L ≠ N := fun e => by
      rw [e, upd_same] at hN
      cases hN
    have qL : Same H (upd H2 L (.dK (hpK hp))) := q02.trans (sameAdd hL)
    have hN0 : H N = none := by
      cases e : H N with
      | none => rfl
      | some o =>
        rw [qL _ _ e] at hN
        cases hN
    have qN : Same H (upd (upd H2 L (.dK (hpK hp))) N (.lst [])) := qL.trans (sameAdd hN)
    have hL1 : (upd (upd H2 L (.dK (hpK hp))) N (.lst [])) L = some (.dK (hpK hp)) := by rw [upd_ne nLN, upd_same]
    have hN1 : (upd (upd H2 L (.dK (hpK hp))) N (.lst [])) N = some (.lst (([] : List Int).map V.int)) := upd_same
    generalize upd (upd H2 L (.dK (hpK hp))) N (.lst []) = H3 at qN hL1 hN1 ⊢
    refine ⟨_, rfl, t, _, 0, .str r.1, rfl, rfl, sameT qN tT, rfl, rfl, _, rfl, ?_⟩
    rw [str_eq]
    refine iteD (fun hc => ?_) (fun hc => ?_)
    · have pc : partR (keysH hp) (mapH hp) (wF st) r = (if wF st r.2.1 ∈ keysH hp ∧ mapH hp (wF st r.2.1) = wF st r.2.2 then some [wF st r.2.1] else none) := by
        unfold partR
        rw [if_pos hc]
      by_cases hin : wF st r.2.1 ∈ keysH hp
      · refine ⟨_, rfl, L, rfl, .inl ⟨_, .inl hL1⟩, _, rfl, _, get_hin hL1 hin, _, rfl, rfl, _, rfl, ?_⟩
        show if decide (V.int _ = V.int _) = true then _ else _
        rw [int_eq]
        refine iteD (fun he => ?_) (fun he => ?_)
        · refine ⟨_, rfl, by show 1 ≤ sizeLine; decide, fun N2 hN2 => ?_⟩
          have hn : H N2 = none := by
            cases e : H N2 with
            | none => rfl
            | some o =>
              rw [qN _ _ e] at hN2
              cases hN2
          exact kyes [wF st r.2.1] (by rw [pc, if_pos ⟨hin, he⟩]) N2 _ (qN.trans (sameAdd hN2)) hn upd_same
        · exact kno (by rw [pc, if_neg (fun q => he q.2)]) H3 qN
      · have g := get_h (k := wF st r.2.1) hL1
        rw [getH_out hin] at g
        refine ⟨_, rfl, L, rfl, .inl ⟨_, .inl hL1⟩, _, rfl, _, g, _, rfl, rfl, _, rfl, ?_⟩
        show if decide (V.non = V.int _) = true then _ else _
        rw [decide_eq_false (fun q => by cases q)]
        exact kno (by rw [pc, if_neg (fun q => hin q.1)]) H3 qN
    · have pc : partR (keysH hp) (mapH hp) (wF st) r = roadF (keysH hp) (mapH hp) (wF st r.2.2) (wF st r.2.1) [] := by
        unfold partR
        rw [if_neg hc]
      rw [pc] at kno kyes
      refine ⟨fun m σ H4 => ∃ v Tk, σ = [some (.ref t), some (.ref sa), some (.ref ha), some (.int v), some (.int (wF st r.2.2)), some (.ref L), some (.ref N)] ∧ m = msr (keysH hp) Tk ∧ Same H H4 ∧ H4 L = some (.dK (hpK hp)) ∧ H4 N = some (.lst (Tk.map V.int)) ∧ Once (keysH hp) Tk ∧
          roadF (keysH hp) (mapH hp) (wF st r.2.2) (wF st r.2.1) [] = roadF (keysH hp) (mapH hp) (wF st r.2.2) v Tk, ⟨_, wF st r.2.1, [], rfl, rfl, qN, hL1, hN1, Once.nil, rfl⟩, ?_⟩
      rintro m σ H4 ⟨v, Tk, rfl, rfl, q4, hL4, hN4, on, rd⟩
      rw [rd] at kno kyes
      refine ⟨_, rfl, _, rfl, rfl, _, rfl, ?_⟩
      rw [int_ne]
      refine iteND (fun hne => ?_) (fun heq => ?_)
      · refine ⟨fun σ H5 => ∃ v Tk2, σ = [some (.ref t), some (.ref sa), some (.ref ha), some (.int v), some (.int (wF st r.2.2)), some (.ref L), some (.ref N)] ∧ msr (keysH hp) Tk2 < msr (keysH hp) Tk ∧ Same H H5 ∧ H5 L = some (.dK (hpK hp)) ∧ H5 N = some (.lst (Tk2.map V.int)) ∧ Once (keysH hp) Tk2 ∧
            roadF (keysH hp) (mapH hp) (wF st r.2.2) (wF st r.2.1) [] = roadF (keysH hp) (mapH hp) (wF st r.2.2) v Tk2, fun σ H5 ⟨v, T2, e1, lt, r⟩ => ⟨_, lt, v, T2, e1, rfl, r⟩, ?_⟩
        have no : ¬ (v ∈ keysH hp ∧ ¬ v ∈ Tk) → Q .non H4 := fun hn => kno (roadF_no hne hn) H4 q4
        refine ⟨_, rfl, _, rfl, L, _, rfl, get_h hL4, _, rfl, ?_⟩
        rw [is_h]
        refine iteND (fun h1 => ?_) (fun h1 => ?_)
        · exact no fun q => h1 q.1
        · refine ⟨_, rfl, _, rfl, N, _, rfl, .inl (SqL.of hN4), rfl, flat_ints Tk, _, rfl, ?_⟩
          show if inV (.int v) (Tk.map V.int) = true then _ else _
          rw [inV_int]
          refine iteD (fun h2 => ?_) (fun h2 => ?_)
          · exact no fun q => q.2 h2
          · have lT : Tk.length < sizeLine := by
              have := once_len on
              have hl := ok.2
              unfold keysH at this
              rw [List.length_map] at this
              exact small2000 (by omega)
            refine ⟨_, rfl, .inl ⟨rfl, _, SqL.of hN4⟩, _, rfl, N, _, _, rfl, rfl, hN4, by rw [List.length_map]; exact lT, ?_⟩
            have hL5 : (upd H4 N (.lst (Tk.map V.int ++ [.int v]))) L = some (.dK (hpK hp)) := by rw [upd_ne nLN]; exact hL4
            refine ⟨_, rfl, _, rfl, L, _, rfl, get_hin hL5 h1, ?_⟩
            refine ⟨_, Tk ++ [v], rfl, msr_lt h1 h2, sameOut q4 hN0, hL5, ?_, on.snoc h1 h2, by rw [rd, roadF_on hne h1 h2]⟩
            rw [upd_same, List.map_append]
            rfl
      · exact ⟨_, rfl, kyes Tk (roadF_end heq) N H4 q4 hN0 hN4⟩
end
end L2.Hx

/-! Rings and long lists: what is due by the law's own roads. -/
namespace L2.Hx
open PySem PySem.Spec PyProof.Rows
theorem eqv_nilI (ns : List Int) : PyData.eqv (.list (ns.map PyData.int)) (.list []) = decide (ns = []) := by
  cases ns <;> simp [PyData.eqv, PyData.eqvAll]
theorem sum4000 {a b : Nat} (ha : a ≤ 2000) (hb : b ≤ 2000) : a + b ≤ sizeLine := by
  have : 5000 ≤ sizeLine := by decide
  omega
theorem free_filter (S : List Int) : ∀ T : List Int, decide ((T.filter fun x => decide (x ∈ S)) = []) = freeOf S T
  | [] => rfl
  | t :: T => by
    have ih := free_filter S T
    unfold freeOf at ih ⊢
    rw [List.filter_cons, List.all_cons]
    by_cases h : t ∈ S
    · rw [decide_eq_true h, if_pos rfl]
      exact decide_eq_false fun q => by cases q
    · rw [decide_eq_false h, if_neg Bool.false_ne_true, ih]
      rfl
theorem pairs_snoc {F : Addr → List Int → Prop} {as : List Addr} {rds : List (List Int)} {a : Addr} {rd : List Int} (h : Paired F as rds) (h2 : F a rd) : Paired F (as ++ [a]) (rds ++ [rd]) := by
  induction h with
  | nil => exact .cons h2 .nil
  | cons p t ih => exact .cons p ih
theorem LiI_pairs {H H' : Hp} {R N : Addr} {as : List Addr} {rds : List (List Int)} (h : Paired (fun (a : Addr) (rd : List Int) => H a = some (.lst (rd.map V.int))) as rds) (off : ∀ a ∈ as, a ≠ R ∧ a ≠ N) (keep : ∀ x o, x ≠ R → x ≠ N → H x = some o → H' x = some o) :
    Paired (fun (a : Addr) (rd : List Int) => H' a = some (.lst (rd.map V.int))) as rds := by
  induction h with
  | nil => exact .nil
  | cons p t ih =>
    have o := off _ List.mem_cons_self
    exact .cons (keep _ _ o.1 o.2 p) (ih fun x hx => off x (List.mem_cons_of_mem _ hx))
def spRoads (K : PySem.W.Frag) : Sp := fun vs H Q _ => ∃ v s h lk pt st hp, vs = [v, .ref s, .ref h] ∧ Da K H v (lclauseD lk pt) ∧ PrT K H s (stK st) ∧ PrT K H h (hpK hp) ∧ StOk st ∧ HpOk hp ∧ KnR st lk ∧ KnR st pt ∧ pt.length ≤ 1000 ∧
  match takenS st hp lk pt with
    | none => ∀ H', Same H H' → Q .non H'
    | some T => ∀ (N : Addr) (as : List Addr) (rds : List (List Int)) (H' : Hp), Same H H' → H' N = some (.lst (as.map V.ref)) → Paired (fun a rd => H' a = some (.lst (rd.map V.int))) as rds → rds.flatten = T → Q (.ref N) H'
def spPartL (K : PySem.W.Frag) : Sp := fun vs H Q _ => ∃ v s h lk pt st hp, vs = [v, .ref s, .ref h] ∧ Da K H v (lclauseD lk pt) ∧ PrT K H s (stK st) ∧ PrT K H h (hpK hp) ∧ StOk st ∧ HpOk hp ∧ KnR st lk ∧ KnR st pt ∧ pt.length ≤ 1000 ∧
  ∀ u H', Same H H' → Da K H' u (dueP st hp lk pt) → Q u H'
section
variable {P : Program} {w : World} {K : PySem.W.Frag} {mg : Str → Option Value} {base : Heap}
theorem D_l_roads (T : Txt K mg) : Df P w K mg base 3 "_law_roads" ["clause", "store", "heap"] (spRoads K) := by
  have D_l_looks_true := D_l_looks_true (P := P) (w := w) (base := base) T
  have D_l_road := D_l_road (P := P) (w := w) (base := base) T
  obtain ⟨f, fd, S⟩ := T.d_l_roads
  refine Df.mk' (k := 2) S sc_l_roads (fun vs H Q E h => ?_) (fun cdv A outer s H vs Q E hgd hr h => ?_)
  · obtain ⟨v, s, h, lk, pt, st, hp, rfl, _⟩ := h
    rfl
  · obtain ⟨v, sa, ha, lk, pt, st, hp, rfl, hd, hs, hh, oks, ok, knl, knp, lpt, k⟩ := h
    have kno : takenS st hp lk pt = none → ∀ H', Same H H' → Q .non H' := fun e => by
      rw [e] at k
      exact k
    have kyes : ∀ T, takenS st hp lk pt = some T → ∀ (N : Addr) (as : List Addr) (rds : List (List Int)) (H' : Hp), Same H H' → H' N = some (.lst (as.map V.ref)) → Paired (fun a rd => H' a = some (.lst (rd.map V.int))) as rds → rds.flatten = T → Q (.ref N) H' := fun T e => by
      rw [e] at k
      exact k
    have hd0 := hd
    obtain ⟨a, xs, rfl, hT, hA⟩ := hd.tupI
    cases hA with
    | cons h1 hA =>
      cases hA with
      | cons h2 hA =>
        cases hA
        obtain ⟨b, ys, rfl, bT, bl, bA⟩ := rows_at h2
        refine ⟨_, (pss_cons (ps_if (pt_not (pt_val (pe_d D_l_looks_true hgd hr (pa_cons (pv 0) (pa_cons (pv 1) pa_nil))))) (pss_one (ps_ret pe_non)) pss_nil)
      (pss_cons (ps_asg (pe_tup (pa_cons (pe_lst pa_nil) (pa_cons (pe_lst pa_nil) pa_nil))) (pg_tup rfl (pgs_cons (pg_name (i := 3) sc_l_roads.nd rfl (.inl rfl)) (pgs_cons (pg_name (i := 4) sc_l_roads.nd rfl (.inr rfl)) pgs_nil))))
      (pss_cons (ps_for PassesOwn.never rfl (pi_tup (pe_ix ix_tup (pv 0) pe_int (fun _ _ => rfl))) (pg_name (i := 5) sc_l_roads.nd rfl (.inl rfl))
      (pss_cons (ps_set (i := 6) sc_l_roads.nd rfl (.inl rfl) (pe_d D_l_road hgd hr (pa_cons (pv 5) (pa_cons (pv 1) (pa_cons (pv 2) pa_nil)))))
      (pss_cons (ps_if (PW.pt (pw_or (pt_cmpR op_isN (pv 6) pe_non (nomark _)) (pw_or1 (pt_cmpR (op_neD hr.units) (pe_lc (own := [("at", 7)]) (g := gName 7) (tt := tTest (tOp (rIn K false) (tVar 7) (tVar 4))) (te := tVar 7) rfl sc_l_roads.nd (pi_list (pv 6)) (blkOk_by (own := [("at", 7)]) (N := ["clause", "store", "heap", "roads", "seen", "part", "road", "at"]) (sc := defScope s_l_roads) (by decide +kernel)) (fun _ _ _ _ _ => pg_name (i := 7) sc_l_roads.nd rfl (.inl rfl)) (fun _ _ _ _ _ => (pts_one (pt_cmpR op_in_seq (pv 7) (pv 4) (by rfl)))) (fun _ _ _ _ _ => (pv 7))) (pe_lst pa_nil) (nomark _))))) (pss_one (ps_ret pe_non)) pss_nil)
      (pss_cons (ps_expr (pe_bm PySem.F.plainAttrs_list PySem.F.slot_list_extend PySem.F.type_list_extend mt_extend (pv 4) (pa_cons (pv 6) pa_nil)))
      (pss_one (ps_expr (pe_bm PySem.F.plainAttrs_list PySem.F.slot_list_append PySem.F.type_list_append mt_append (pv 3) (pa_cons (pv 6) pa_nil))))))))
      (pss_one (ps_ret (pv 3)))))), ?_⟩
        refine ⟨_, rfl, _, rfl, _, sa, lk, pt, st, rfl, hd0, hs, oks, knl, fun H1 q1 => ⟨_, rfl, iteNot (fun hl => ?_) (fun hl => ?_)⟩⟩
        · exact kno (by unfold takenS takenF; rw [if_neg (by rw [hl]; exact Bool.false_ne_true)]) H1 q1
        · have tk : takenS st hp lk pt = partsF (keysH hp) (mapH hp) (wF st) [] pt := by unfold takenS takenF; rw [if_pos hl]
          rw [tk] at kno kyes
          refine ⟨Nat.zero_le _, fun R hR => ⟨Nat.zero_le _, fun N hN => ⟨by show 2 ≤ sizeLine; decide, fun t ht => ⟨t, _, rfl, SqT.of upd_same, rfl, _, _, rfl, _, _, rfl, rfl, ?_⟩⟩⟩⟩
          have nRN : R ≠ N := fun e => by
            rw [e, upd_same] at hN
            cases hN
          have nNt : N ≠ t := fun e => by
            rw [e, upd_same] at ht
            cases ht
          have nRt : R ≠ t := fun e => by
            rw [← e, upd_ne nRN, upd_same] at ht
            cases ht
          have none_ : ∀ {b : Addr} {H2 : Hp}, Same H H2 → H2 b = none → H b = none := fun {b H2} q e => by
            cases e2 : H b with
            | none => rfl
            | some o =>
              rw [q _ _ e2] at e
              cases e
          have hR0 := none_ q1 hR
          have hN0 := none_ (q1.trans (sameAdd hR)) hN
          have qq : Same H (upd (upd (upd H1 R (.lst [])) N (.lst [])) t (.tup [.ref R, .ref N])) := ((q1.trans (sameAdd hR)).trans (sameAdd hN)).trans (sameAdd ht)
          have hRR : (upd (upd (upd H1 R (.lst [])) N (.lst [])) t (.tup [.ref R, .ref N])) R = some (.lst (([] : List Addr).map V.ref)) := by rw [upd_ne nRt, upd_ne nRN, upd_same]; rfl
          have hNN : (upd (upd (upd H1 R (.lst [])) N (.lst [])) t (.tup [.ref R, .ref N])) N = some (.lst (([] : List Int).map V.int)) := by rw [upd_ne nNt, upd_same]; rfl
          dsimp only [gName, List.set]
          generalize upd (upd (upd H1 R (.lst [])) N (.lst [])) t (.tup [.ref R, .ref N]) = H2 at qq hRR hNN ⊢
          refine ⟨_, rfl, a, _, 1, .ref b, rfl, rfl, sameT qq hT, rfl, b, rfl, ⟨_, sameT qq bT⟩, for_tup (K := K) (a := b) (xs := ys) (fun i σ H3 => ∃ o5 o6 o7 Tk as rds, σ = [some (.ref a), some (.ref sa), some (.ref ha), some (.ref R), some (.ref N), o5, o6, o7] ∧ Same H H3 ∧ H3 R = some (.lst (as.map V.ref)) ∧
              H3 N = some (.lst (Tk.map V.int)) ∧ Paired (fun (a : Addr) (rd : List Int) => H3 a = some (.lst (rd.map V.int))) as rds ∧ (∀ a ∈ as, a ≠ R ∧ a ≠ N) ∧ rds.flatten = Tk ∧ as.length = i ∧ Once (keysH hp) Tk ∧ partsF (keysH hp) (mapH hp) (wF st) [] pt = partsF (keysH hp) (mapH hp) (wF st) Tk (pt.drop i))
            ⟨_, _, _, [], [], [], rfl, qq, hRR, hNN, .nil, fun x hx => absurd hx List.not_mem_nil, rfl, rfl, Once.nil, rfl⟩ (fun i σ H3 _ ⟨_, _, _, _, _, _, _, q, _⟩ => sameT q bT) ?_ ?_⟩
          · rintro i x σ H3 hx ⟨o5, o6, o7, Tk, as, rds, rfl, q3, hR3, hN3, pr3, off, fl, la, on, pf⟩
            obtain ⟨r, t, hr1, rfl, tT⟩ := bA i x hx
            obtain ⟨k1, k2⟩ := knp r (List.mem_of_getElem? hr1)
            have li : i < pt.length := (List.getElem?_eq_some_iff.mp hr1).1
            rw [drop_row hr1, partsF, part_eq, partL] at pf
            dsimp only [gName, List.set]
            refine ⟨_, rfl, _, rfl, _, rfl, .ref t, sa, ha, r, st, hp, rfl, .tup (sameT q3 tT) (.cons (.str _) (.cons (.str _) (.cons (.str _) .nil))), hs.same q3, hh.same q3, oks, ok, k1, k2, ?_⟩
            cases e : partR (keysH hp) (mapH hp) (wF st) r with
            | none =>
              intro H4 q4
              rw [e] at pf
              exact ⟨_, rfl, rfl, true, by simp, kno pf H4 (q3.trans q4)⟩
            | some rd =>
              intro M H4 q4 hM0 hM
              rw [e, Option.bind_some] at pf
              have q04 := q3.trans q4
              refine ⟨_, rfl, rfl, false, by simp, ?_⟩
              have hN4 := q4 _ _ hN3
              have hR4 := q4 _ _ hR3
              have nMR : M ≠ R := fun z => by
                rw [z, hR3] at hM0
                cases hM0
              have nMN : M ≠ N := fun z => by
                rw [z, hN3] at hM0
                cases hM0
              have lTk : Tk.length ≤ 2000 := by
                have := once_len on
                have hl := ok.2
                unfold keysH at this
                rw [List.length_map] at this
                omega
              have lrd : rd.length ≤ 2000 := by
                have on1 : Once (keysH hp) rd := by
                  have pe := part_eq (keysH hp) (mapH hp) (wF st) [] r
                  have fr : freeOf [] rd = true := List.all_eq_true.mpr fun x _ => by simp
                  rw [partL, e, Option.bind_some, if_pos fr, List.nil_append] at pe
                  exact partP_once _ _ _ Once.nil pe
                have := once_len on1
                have hl := ok.2
                unfold keysH at this
                rw [List.length_map] at this
                omega
              refine ⟨_, rfl, M, rfl, ⟨_, SqL.of hM⟩, fun D hD => lc_list (K := K) (a := M) (xs := rd.map V.int) (fun j H5 => Same H4 H5 ∧ H5 D = some (.lst (((rd.take j).filter fun x => decide (x ∈ Tk)).map V.int))) ⟨sameAdd hD, upd_same⟩ (fun j H5 _ q => SqL.of (q.1 _ _ hM)) ?_ ?_⟩
              · rintro j y H5 hy ⟨q5, hD5⟩
                rw [List.getElem?_map] at hy
                obtain ⟨z, hz, rfl⟩ := Option.map_eq_some_iff.mp hy
                have lj := (List.getElem?_eq_some_iff.mp hz).1
                have et : ((rd.take (j + 1)).filter fun x => decide (x ∈ Tk)) = ((rd.take j).filter fun x => decide (x ∈ Tk)) ++ if decide (z ∈ Tk) = true then [z] else [] := by
                  rw [List.take_add_one, hz, Option.toList_some, List.filter_append, List.filter_cons, List.filter_nil]
                refine ⟨rfl, _, rfl, _, rfl, N, _, rfl, .inl (SqL.of (q5 _ _ hN4)), rfl, flat_ints Tk, _, rfl, ?_⟩
                show if inV (.int z) (Tk.map V.int) = true then _ else _
                rw [inV_int]
                refine iteB (fun hb => ?_) (fun hb => ?_)
                · rw [if_pos hb] at et
                  refine ⟨_, rfl, _, hD5, ?_, sameOut q5 hD, ?_⟩
                  · rw [List.length_map]
                    have h2 := List.length_filter_le (fun x : Int => decide (x ∈ Tk)) (rd.take j)
                    rw [List.length_take] at h2
                    exact small2000 (by omega)
                  · rw [upd_same, et, List.map_append]
                    rfl
                · rw [if_neg (by rw [hb]; exact Bool.false_ne_true), List.append_nil] at et
                  exact ⟨q5, by rw [et]; exact hD5⟩
              · rintro H5 ⟨q5, hD5⟩
                rw [List.length_map, List.take_length] at hD5
                refine ⟨Nat.zero_le _, fun Z hZ => ?_⟩
                have nDZ : D ≠ Z := ne_of_none hD5 hZ
                refine ⟨.list ((rd.filter fun x => decide (x ∈ Tk)).map PyData.int), .list [], .lst (SqL.of (by rw [upd_ne nDZ]; exact hD5)) (dp_ints _), .lst (SqL.of upd_same) .nil, shaped_ints _, rfl, _, rfl, ?_⟩
                rw [eqv_nilI, free_filter]
                have q06 : Same H (upd H5 Z (.lst [])) := (q04.trans q5).trans (sameAdd hZ)
                have q46 : Same H4 (upd H5 Z (.lst [])) := q5.trans (sameAdd hZ)
                generalize upd H5 Z (.lst []) = H6 at q06 q46 ⊢
                refine iteNot (fun hb => ?_) (fun hb => ?_)
                · rw [if_neg (by rw [hb]; exact Bool.false_ne_true)] at pf
                  exact kno pf H6 q06
                · rw [if_pos hb, Option.bind_some] at pf
                  have on2 : Once (keysH hp) (Tk ++ rd) := by
                    have pe := part_eq (keysH hp) (mapH hp) (wF st) Tk r
                    rw [partL, e, Option.bind_some, if_pos hb] at pe
                    exact partP_once _ _ _ on pe
                  refine ⟨_, rfl, .inl ⟨rfl, _, SqL.of (q46 _ _ hN4)⟩, _, rfl, N, M, _, _, rfl, rfl, q46 _ _ hN4, q46 _ _ hM, by rw [List.length_map, List.length_map]; exact sum4000 lTk lrd, ?_⟩
                  have hR7 : (upd H6 N (.lst (Tk.map V.int ++ rd.map V.int))) R = some (.lst (as.map V.ref)) := by rw [upd_ne nRN]; exact q46 _ _ hR4
                  refine ⟨_, rfl, .inl ⟨rfl, _, SqL.of hR7⟩, _, rfl, R, _, _, rfl, rfl, hR7, by rw [List.length_map, la]; exact small2000 (by omega), ?_⟩
                  refine ⟨_, _, _, Tk ++ rd, as ++ [M], rds ++ [rd], rfl, sameOut (sameOut q06 hN0) hR0, by rw [upd_same, List.map_append]; rfl, by rw [upd_ne nRN.symm, upd_same, List.map_append], ?_, fun x hx => ?_, by rw [List.flatten_append, fl]; simp, by rw [List.length_append, la]; rfl, on2, pf⟩
                  · refine pairs_snoc (LiI_pairs pr3 off fun x xs nR nN ex => ?_) ?_
                    · rw [upd_ne nR, upd_ne nN]
                      exact q46 _ _ (q4 _ _ ex)
                    · rw [upd_ne nMR, upd_ne nMN]
                      exact q46 _ _ hM
                  · rcases List.mem_append.mp hx with hx | hx
                    · exact off x hx
                    · rw [List.mem_singleton.mp hx]
                      exact ⟨nMR, nMN⟩
          · rintro σ H3 ⟨o5, o6, o7, Tk, as, rds, rfl, q3, hR3, hN3, pr3, off, fl, la, on, pf⟩
            rw [bl, List.drop_length] at pf
            exact ⟨_, rfl, kyes Tk pf R as rds H3 q3 hR3 pr3 fl⟩
end
end L2.Hx

/-! Lost cells and joined clauses, over plain lists. -/
namespace L2.Hx
open PySem PySem.Spec PyProof.Rows
/-- x is come to from a -/
inductive Rch (ks : List Int) (M : Int → Int) : Int → Int → Prop
  | here {a : Int} : a ∈ ks → Rch ks M a a
  | step {a x : Int} : a ∈ ks → Rch ks M (M a) x → Rch ks M a x
section
variable {ks : List Int} {M : Int → Int}
theorem Rch.start {a x : Int} (h : Rch ks M a x) : a ∈ ks := by
  cases h with
  | here h => exact h
  | step h _ => exact h
theorem Rch.key {a x : Int} (h : Rch ks M a x) : x ∈ ks := by
  induction h with
  | here h => exact h
  | step _ _ ih => exact ih
def Cld (ks : List Int) (M : Int → Int) (S : List Int) : Prop := ∀ k ∈ S, M k ∈ ks → M k ∈ S
theorem reach_all (a : Int) (S : List Int) (h : ∀ k ∈ S, M k ∈ ks → M k ∈ S ∨ M k = a) :
    Cld ks M (reachF ks M a S) ∧ (∀ x ∈ S, x ∈ reachF ks M a S) ∧ (a ∈ ks → a ∈ reachF ks M a S) ∧ ∀ x ∈ reachF ks M a S, x ∈ S ∨ Rch ks M a x := by
  by_cases h2 : a ∈ ks ∧ ¬ a ∈ S
  · rw [reachF_on h2.1 h2.2]
    have ih := reach_all (M a) (S ++ [a]) (fun k m hk => by
      rcases List.mem_append.mp m with m | m
      · rcases h k m hk with q | q
        · exact .inl (List.mem_append_left _ q)
        · exact .inl (List.mem_append_right _ (by rw [q]; exact List.mem_cons_self))
      · rw [List.mem_singleton.mp m]
        exact .inr rfl)
    refine ⟨ih.1, fun x m => ih.2.1 x (List.mem_append_left _ m), fun _ => ih.2.1 a (List.mem_append_right _ List.mem_cons_self), fun x m => ?_⟩
    rcases ih.2.2.2 x m with m | r
    · rcases List.mem_append.mp m with m | m
      · exact .inl m
      · rw [List.mem_singleton.mp m]
        exact .inr (.here h2.1)
    · exact .inr (.step h2.1 r)
  · rw [reachF_no h2]
    refine ⟨fun k m hk => ?_, fun x m => m, fun ha => Decidable.byContradiction fun n => h2 ⟨ha, n⟩, fun x m => .inl m⟩
    rcases h k m hk with q | q
    · exact q
    · rw [q] at hk ⊢
      exact Decidable.byContradiction fun n => h2 ⟨hk, n⟩
termination_by msr ks S
decreasing_by exact msr_lt h2.1 h2.2
theorem rch_in {S : List Int} (c : Cld ks M S) {a x : Int} (h : Rch ks M a x) : a ∈ S → x ∈ S := by
  induction h with
  | here _ => exact id
  | step _ r ih => exact fun m => ih (c _ m r.start)
end
theorem met_iff {hp : Hl} {x : Int} : ∀ (st : Sl) (S : List Int), Cld (keysH hp) (mapH hp) S → (x ∈ metP hp st S ↔ x ∈ S ∨ ∃ c ∈ st, Rch (keysH hp) (mapH hp) c.2 x)
  | [], S, _ => ⟨.inl, fun h => h.elim id fun ⟨c, m, _⟩ => absurd m List.not_mem_nil⟩
  | c :: st, S, h => by
    have r := reach_all (ks := keysH hp) (M := mapH hp) c.2 S fun k m hk => .inl (h k m hk)
    have ih := met_iff (hp := hp) (x := x) st (reachF (keysH hp) (mapH hp) c.2 S) r.1
    show x ∈ metP hp st (reachF (keysH hp) (mapH hp) c.2 S) ↔ _
    rw [ih]
    constructor
    · rintro (m | ⟨d, m, q⟩)
      · rcases r.2.2.2 x m with m | q
        · exact .inl m
        · exact .inr ⟨c, List.mem_cons_self, q⟩
      · exact .inr ⟨d, List.mem_cons_of_mem _ m, q⟩
    · rintro (m | ⟨d, m, q⟩)
      · exact .inl (r.2.1 x m)
      · rcases List.mem_cons.mp m with rfl | m
        · exact .inl (rch_in r.1 q (r.2.2.1 q.start))
        · exact .inr ⟨d, m, q⟩
def Got (st : Sl) (hp : Hl) (x : Int) : Prop := ∃ c ∈ st, Rch (keysH hp) (mapH hp) c.2 x
theorem met_got {st : Sl} {hp : Hl} {x : Int} : x ∈ metP hp st [] ↔ Got st hp x := by
  rw [met_iff st [] fun k m => absurd m List.not_mem_nil]
  exact ⟨fun h => h.elim (fun m => absurd m List.not_mem_nil) id, .inr⟩
def lostL (st : Sl) (hp : Hl) : List Int := (hp.filter fun c => !decide (c.1 ∈ metP hp st [])).map (·.1)
theorem lostP_eq (st : Sl) (hp : Hl) : lostP st hp = .tuple ((lostL st hp).map PyData.int) := by
  unfold lostP lostL
  rw [List.map_map]
  rfl
theorem mem_lost {st : Sl} {hp : Hl} {x : Int} : x ∈ lostL st hp ↔ x ∈ keysH hp ∧ ¬ Got st hp x := by
  unfold lostL keysH
  rw [List.mem_map, List.mem_map]
  constructor
  · rintro ⟨c, m, rfl⟩
    obtain ⟨m1, m2⟩ := List.mem_filter.mp m
    have m3 : ¬ c.1 ∈ metP hp st [] := by simpa using m2
    exact ⟨⟨c, m1, rfl⟩, fun g => m3 (met_got.mpr g)⟩
  · rintro ⟨⟨c, m, rfl⟩, n⟩
    exact ⟨c, List.mem_filter.mpr ⟨m, by simpa using fun q => n (met_got.mp q)⟩, rfl⟩
theorem lost_sub (st : Sl) (hp : Hl) : (lostL st hp).Sublist (keysH hp) := List.Sublist.map _ List.filter_sublist
theorem lost_more {st st2 : Sl} {hp : Hl} (h : ∀ c ∈ st, c ∈ st2) : ∀ x ∈ lostL st2 hp, x ∈ lostL st hp := fun x m => by
  obtain ⟨a, b⟩ := mem_lost.mp m
  exact mem_lost.mpr ⟨a, fun ⟨c, mc, r⟩ => b ⟨c, h c mc, r⟩⟩
/-- a cell gone -/
def leftH (g : Int) (hp : Hl) : Hl := hp.filter fun c => !decide (c.1 = g)
theorem getH_left {g k : Int} (n : ¬ k = g) : ∀ hp : Hl, getH (leftH g hp) k = getH hp k
  | [] => rfl
  | c :: hp => by
    have ih := getH_left n hp
    unfold leftH getH at ih ⊢
    rw [List.filter_cons]
    by_cases e : c.1 = g
    · rw [decide_eq_true e, if_neg (show ¬ (!true) = true from Bool.false_ne_true), ih, List.find?_cons, decide_eq_false (by rw [e]; exact fun q => n q.symm)]
    · rw [decide_eq_false e, if_pos (show (!false) = true from rfl), List.find?_cons, List.find?_cons]
      cases h : decide (c.1 = k)
      · exact ih
      · rfl
theorem mem_left {g k : Int} {hp : Hl} : k ∈ keysH (leftH g hp) ↔ k ∈ keysH hp ∧ ¬ k = g := by
  unfold keysH leftH
  rw [List.mem_map, List.mem_map]
  constructor
  · rintro ⟨c, m, rfl⟩
    obtain ⟨m1, m2⟩ := List.mem_filter.mp m
    exact ⟨⟨c, m1, rfl⟩, by simpa using m2⟩
  · rintro ⟨⟨c, m, rfl⟩, n⟩
    exact ⟨c, List.mem_filter.mpr ⟨m, by simpa using n⟩, rfl⟩
theorem mapH_left {g k : Int} (n : ¬ k = g) (hp : Hl) : mapH (leftH g hp) k = mapH hp k := by
  unfold mapH
  rw [getH_left n]
theorem rch_left1 {g : Int} {hp : Hl} {a x : Int} (h : Rch (keysH (leftH g hp)) (mapH (leftH g hp)) a x) : Rch (keysH hp) (mapH hp) a x := by
  induction h with
  | here h => exact .here (mem_left.mp h).1
  | step h _ ih =>
    rw [mapH_left (mem_left.mp h).2] at ih
    exact .step (mem_left.mp h).1 ih
theorem rch_left2 {g : Int} {hp : Hl} {a x : Int} (h : Rch (keysH hp) (mapH hp) a x) : ¬ Rch (keysH hp) (mapH hp) a g → Rch (keysH (leftH g hp)) (mapH (leftH g hp)) a x := by
  induction h with
  | @here a h =>
    intro n
    exact .here (mem_left.mpr ⟨h, fun e => n (by rw [← e]; exact .here h)⟩)
  | @step a x h r ih =>
    intro n
    have ne : ¬ a = g := fun e => n (by rw [← e]; exact .here h)
    refine .step (mem_left.mpr ⟨h, ne⟩) ?_
    rw [mapH_left ne]
    exact ih fun q => n (.step h q)
theorem lost_left {st : Sl} {hp : Hl} {g : Int} (h : g ∈ lostL st hp) : lostL st (leftH g hp) = (lostL st hp).filter fun x => !decide (x = g) := by
  have ng := (mem_lost.mp h).2
  have key : ∀ x, ¬ x = g → (x ∈ metP (leftH g hp) st [] ↔ x ∈ metP hp st []) := fun x n => by
    rw [met_got, met_got]
    exact ⟨fun ⟨c, m, r⟩ => ⟨c, m, rch_left1 r⟩, fun ⟨c, m, r⟩ => ⟨c, m, rch_left2 r fun q => ng ⟨c, m, q⟩⟩⟩
  unfold lostL
  rw [List.filter_map]
  congr 1
  unfold leftH
  rw [List.filter_filter, List.filter_filter]
  refine List.filter_congr fun c m => ?_
  show ((!decide (c.1 ∈ metP (leftH g hp) st [])) && !decide (c.1 = g)) = ((!decide (c.1 = g)) && !decide (c.1 ∈ metP hp st []))
  by_cases e : c.1 = g
  · rw [decide_eq_true e]
    simp
  · rw [decide_eq_false e]
    have := key c.1 e
    by_cases q : c.1 ∈ metP hp st []
    · rw [decide_eq_true q, decide_eq_true (this.mpr q)]
      rfl
    · rw [decide_eq_false q, decide_eq_false fun z => q (this.mp z)]
/-- by key and value -/
theorem mapH_mem {k v : Int} : ∀ {hp : Hl}, (keysH hp).Nodup → (k, v) ∈ hp → mapH hp k = v
  | [], _, m => absurd m List.not_mem_nil
  | c :: hp, nd, m => by
    have nd2 := List.nodup_cons.mp nd
    rcases List.mem_cons.mp m with e | m
    · unfold mapH getH
      rw [List.find?_cons, ← e, decide_eq_true (show (k, v).1 = k from rfl)]
      rfl
    · have ne : ¬ c.1 = k := fun e => nd2.1 (by show c.1 ∈ List.map (·.1) hp; rw [e]; exact List.mem_map.mpr ⟨(k, v), m, rfl⟩)
      have ih := mapH_mem nd2.2 m
      unfold mapH getH at ih ⊢
      rw [List.find?_cons, decide_eq_false ne]
      exact ih
theorem mem_mapH {k : Int} {hp : Hl} (nd : (keysH hp).Nodup) (h : k ∈ keysH hp) : (k, mapH hp k) ∈ hp := by
  obtain ⟨c, m, rfl⟩ := List.mem_map.mp h
  rw [mapH_mem nd (v := c.2) m]
  exact m
/-- addresses called otherwise -/
structure Ren (om : Hl) (st : Sl) (hp : Hl) (st' : Sl) (hp' : Hl) : Prop where
  inj : ∀ x ∈ keysH om, ∀ y ∈ keysH om, mapH om x = mapH om y → x = y
  hin : ∀ c ∈ hp, c.1 ∈ keysH om ∧ c.2 ∈ keysH om
  sin : ∀ c ∈ st, c.2 ∈ keysH om
  nd : (keysH hp).Nodup
  nd' : (keysH hp').Nodup
  hp' : hp'.Perm (hp.map fun c => (mapH om c.1, mapH om c.2))
  st' : st' = st.map fun c => (c.1, mapH om c.2)
section
variable {om : Hl} {st : Sl} {hp : Hl} {st' : Sl} {hp' : Hl}
theorem Ren.key (R : Ren om st hp st' hp') {k : Int} (h : k ∈ keysH hp) : mapH om k ∈ keysH hp' ∧ mapH hp' (mapH om k) = mapH om (mapH hp k) ∧ k ∈ keysH om ∧ mapH hp k ∈ keysH om := by
  have m := mem_mapH R.nd h
  have m2 : (mapH om k, mapH om (mapH hp k)) ∈ hp' := R.hp'.mem_iff.mpr (List.mem_map.mpr ⟨_, m, rfl⟩)
  exact ⟨List.mem_map.mpr ⟨_, m2, rfl⟩, mapH_mem R.nd' m2, R.hin _ m⟩
theorem Ren.back (R : Ren om st hp st' hp') {k : Int} (h : k ∈ keysH hp') : ∃ k0 ∈ keysH hp, k = mapH om k0 := by
  obtain ⟨c, m, rfl⟩ := List.mem_map.mp h
  obtain ⟨d, md, rfl⟩ := List.mem_map.mp (R.hp'.mem_iff.mp m)
  exact ⟨d.1, List.mem_map.mpr ⟨d, md, rfl⟩, rfl⟩
theorem Ren.to (R : Ren om st hp st' hp') {a x : Int} (h : Rch (keysH hp) (mapH hp) a x) : Rch (keysH hp') (mapH hp') (mapH om a) (mapH om x) := by
  induction h with
  | here h => exact .here (R.key h).1
  | step h _ ih =>
    rw [← (R.key h).2.1] at ih
    exact .step (R.key h).1 ih
theorem Ren.from (R : Ren om st hp st' hp') {b y : Int} (h : Rch (keysH hp') (mapH hp') b y) : ∀ a ∈ keysH om, b = mapH om a → ∃ x ∈ keysH om, y = mapH om x ∧ Rch (keysH hp) (mapH hp) a x := by
  have own : ∀ {b : Int}, b ∈ keysH hp' → ∀ a ∈ keysH om, b = mapH om a → a ∈ keysH hp := fun hb a ha e => by
    obtain ⟨k0, m0, e0⟩ := R.back hb
    have := R.inj a ha k0 (R.key m0).2.2.1 (by rw [← e, e0])
    rw [this]
    exact m0
  induction h with
  | here h => exact fun a ha e => ⟨a, ha, e, .here (own h a ha e)⟩
  | step h _ ih =>
    intro a ha e
    have m := own h a ha e
    obtain ⟨x, hx, ex, r⟩ := ih (mapH hp a) (R.key m).2.2.2 (by rw [e, (R.key m).2.1])
    exact ⟨x, hx, ex, .step m r⟩
theorem Ren.lost (R : Ren om st hp st' hp') : (lostL st' hp').Perm ((lostL st hp).map (mapH om)) := by
  have nd1 : (lostL st hp).Nodup := R.nd.sublist (lost_sub st hp)
  refine (List.perm_ext_iff_of_nodup (R.nd'.sublist (lost_sub st' hp')) ?_).mpr fun y => ?_
  · refine List.pairwise_map.mpr (nd1.imp_of_mem fun {a b} ma mb ne e => ne ?_)
    exact R.inj a (R.key (mem_lost.mp ma).1).2.2.1 b (R.key (mem_lost.mp mb).1).2.2.1 e
  · rw [mem_lost, List.mem_map]
    constructor
    · rintro ⟨hk, n⟩
      obtain ⟨k0, m0, rfl⟩ := R.back hk
      refine ⟨k0, mem_lost.mpr ⟨m0, fun ⟨c, mc, r⟩ => n ?_⟩, rfl⟩
      refine ⟨(c.1, mapH om c.2), ?_, R.to r⟩
      rw [R.st']
      exact List.mem_map.mpr ⟨c, mc, rfl⟩
    · rintro ⟨x, mx, rfl⟩
      obtain ⟨m0, n⟩ := mem_lost.mp mx
      refine ⟨(R.key m0).1, fun ⟨c, mc, r⟩ => n ?_⟩
      rw [R.st'] at mc
      obtain ⟨d, md, rfl⟩ := List.mem_map.mp mc
      obtain ⟨x2, h2, e2, r2⟩ := R.from r d.2 (R.sin d md) rfl
      have := R.inj x (R.key m0).2.2.1 x2 h2 e2
      rw [this]
      exact ⟨d, md, r2⟩
end
theorem asc_uniq {l m : List Int} (h1 : l.Pairwise (· < ·)) (h2 : m.Pairwise (· ≤ ·)) (p : l.Perm m) : l = m :=
  List.Perm.eq_of_pairwise (le := (· ≤ ·)) (fun a b _ _ h1 h2 => Int.le_antisymm h1 h2) (h1.imp fun h => Int.le_of_lt h) h2 p
/-! joined clauses -/
section
variable (ks : List Int) (M W : Int → Int) (w : Str → Int)
theorem partsF_app : ∀ (p1 p2 : List Row) (S : List Int), partsF ks M w S (p1 ++ p2) = (partsF ks M w S p1).bind fun T => partsF ks M w T p2
  | [], _, _ => rfl
  | r :: p1, p2, S => by
    show ((partP ks M w S r).bind fun T => partsF ks M w T (p1 ++ p2)) = _
    rw [partsF]
    cases partP ks M w S r with
    | none => rfl
    | some T => exact partsF_app p1 p2 T
theorem partP_sub {S T : List Int} {r : Row} (q : partP ks M w S r = some T) : ∀ x ∈ S, x ∈ T := by
  unfold partP at q
  split at q
  · split at q
    · cases q
      exact fun x m => List.mem_append_left _ m
    · cases q
  · exact roadF_sub _ _ q
theorem partsF_sub : ∀ (rs : List Row) {S T : List Int}, partsF ks M w S rs = some T → ∀ x ∈ S, x ∈ T
  | [], S, T, q => by
    cases q
    exact fun x m => m
  | r :: rs, S, T, q => by
    rw [partsF] at q
    cases e : partP ks M w S r with
    | none =>
      rw [e] at q
      cases q
    | some S2 =>
      rw [e, Option.bind_some] at q
      exact fun x m => partsF_sub rs q x (partP_sub ks M w e x m)
theorem free_no {S T : List Int} {x : Int} (h1 : x ∈ T) (h2 : x ∈ S) : ¬ freeOf S T = true := fun h => by
  have := List.all_eq_true.mp h x h1
  rw [decide_eq_true h2] at this
  cases this
theorem free_iff {S T : List Int} : freeOf S T = true ↔ ∀ x ∈ T, ¬ x ∈ S := by
  unfold freeOf
  rw [List.all_eq_true]
  exact ⟨fun h x m q => free_no m q (List.all_eq_true.mpr h), fun h x m => by rw [decide_eq_false (h x m)]; rfl⟩
theorem partP_both (S r : List Int) (row : Row) (hd : freeOf S r = true) :
    partP ks M w (S ++ r) row = (partP ks M w r row).bind fun T => if freeOf S T = true then some (S ++ T) else none := by
  unfold partP
  by_cases hc : row.1 = "cell"
  · rw [if_pos hc, if_pos hc]
    by_cases h1 : w row.2.1 ∈ ks ∧ ¬ w row.2.1 ∈ r ∧ M (w row.2.1) = w row.2.2
    · rw [if_pos h1, Option.bind_some]
      by_cases h2 : w row.2.1 ∈ S
      · rw [if_neg fun q => q.2.1 (List.mem_append_left _ h2), if_neg (free_no (List.mem_append_right _ List.mem_cons_self) h2)]
      · rw [if_pos ⟨h1.1, fun q => (List.mem_append.mp q).elim h2 h1.2.1, h1.2.2⟩, if_pos, List.append_assoc]
        refine free_iff.mpr fun x m => ?_
        rcases List.mem_append.mp m with m | m
        · exact free_iff.mp hd x m
        · rw [List.mem_singleton.mp m]
          exact h2
    · rw [if_neg h1, if_neg fun q => h1 ⟨q.1, fun z => q.2.1 (List.mem_append_right _ z), q.2.2⟩]
      rfl
  · rw [if_neg hc, if_neg hc]
    exact roadF_both S _ _ hd
theorem partsF_both (S : List Int) : ∀ (rs : List Row) (r : List Int), freeOf S r = true →
    partsF ks M w (S ++ r) rs = (partsF ks M w r rs).bind fun T => if freeOf S T = true then some (S ++ T) else none
  | [], r, hd => by
    rw [partsF, partsF, Option.bind_some, if_pos hd]
  | row :: rs, r, hd => by
    rw [partsF, partsF, partP_both ks M w S r row hd]
    cases e : partP ks M w r row with
    | none => rfl
    | some T =>
      rw [Option.bind_some, Option.bind_some]
      by_cases h : freeOf S T = true
      · rw [if_pos h, Option.bind_some]
        exact partsF_both S rs T h
      · rw [if_neg h, Option.bind_none]
        cases e2 : partsF ks M w T rs with
        | none => rfl
        | some T2 =>
          rw [Option.bind_some, if_neg fun q => h (free_iff.mpr fun x m => free_iff.mp q x (partsF_sub ks M w rs e2 x m))]
theorem taken_both (l1 l2 p1 p2 : List Row) : takenF ks M w (l1 ++ l2) (p1 ++ p2) = (takenF ks M w l1 p1).bind fun T1 => (takenF ks M w l2 p2).bind fun T2 => if freeOf T1 T2 = true then some (T1 ++ T2) else none := by
  have e : looksF w (l1 ++ l2) = (looksF w l1 && looksF w l2) := List.all_append
  unfold takenF
  rw [e]
  cases looksF w l1 with
  | false => rfl
  | true =>
    rw [if_pos (show true = true from rfl), partsF_app]
    cases e1 : partsF ks M w [] p1 with
    | none =>
      cases looksF w l2 <;> rfl
    | some T1 =>
      rw [Option.bind_some, Option.bind_some]
      cases looksF w l2 with
      | false => rfl
      | true =>
        have := partsF_both ks M w T1 p2 [] rfl
        rw [List.append_nil] at this
        exact this
end
def cellsIn (hp : Hl) (T : List Int) : Hl := hp.filter fun c => decide (c.1 ∈ T)
theorem mem_cellsIn {hp : Hl} {T : List Int} {c : Int × Int} : c ∈ cellsIn hp T ↔ c ∈ hp ∧ c.1 ∈ T := by
  unfold cellsIn
  rw [List.mem_filter]
  exact ⟨fun ⟨a, b⟩ => ⟨a, of_decide_eq_true b⟩, fun ⟨a, b⟩ => ⟨a, decide_eq_true b⟩⟩
theorem hl_nodup {hp : Hl} (nd : (keysH hp).Nodup) : hp.Nodup := by
  have : hp.Pairwise fun a b => a.1 ≠ b.1 := List.pairwise_map.mp nd
  exact this.imp fun h e => h (by rw [e])
/-- what both have -/
theorem both_none {hp : Hl} {T1 T2 : List Int} (h2 : ∀ x ∈ T2, x ∈ keysH hp) : ((cellsIn hp T1).filter fun c => decide (c ∈ cellsIn hp T2)) = [] ↔ freeOf T1 T2 = true := by
  rw [List.filter_eq_nil_iff, free_iff]
  constructor
  · intro h x m q
    obtain ⟨c, mc, rfl⟩ := List.mem_map.mp (h2 x m)
    exact h c (mem_cellsIn.mpr ⟨mc, q⟩) (decide_eq_true (mem_cellsIn.mpr ⟨mc, m⟩))
  · intro h c mc q
    exact h c.1 (mem_cellsIn.mp (of_decide_eq_true q)).2 (mem_cellsIn.mp mc).2
theorem both_perm {hp : Hl} (nd : (keysH hp).Nodup) {T1 T2 : List Int} (h : freeOf T1 T2 = true) : (cellsIn hp T1 ++ cellsIn hp T2).Perm (cellsIn hp (T1 ++ T2)) := by
  have n := hl_nodup nd
  refine (List.perm_ext_iff_of_nodup (List.nodup_append.mpr ⟨n.sublist List.filter_sublist, n.sublist List.filter_sublist, fun a ha b hb e => ?_⟩) (n.sublist List.filter_sublist)).mpr fun c => ?_
  · subst e
    exact free_iff.mp h _ (mem_cellsIn.mp hb).2 (mem_cellsIn.mp ha).2
  · show c ∈ cellsIn hp T1 ++ cellsIn hp T2 ↔ c ∈ cellsIn hp (T1 ++ T2)
    rw [List.mem_append, mem_cellsIn, mem_cellsIn, mem_cellsIn, List.mem_append]
    exact ⟨fun q => q.elim (fun q => ⟨q.1, .inl q.2⟩) fun q => ⟨q.1, .inr q.2⟩, fun q => q.2.elim (fun z => .inl ⟨q.1, z⟩) fun z => .inr ⟨q.1, z⟩⟩
/-- pairs in their order -/
def SrtH (l : Hl) : Prop := l.Pairwise fun a b => SrtO.lexB b a = false
theorem srtH_uniq {l m : Hl} (h1 : SrtH l) (h2 : SrtH m) (p : l.Perm m) : l = m := by
  refine List.Perm.eq_of_pairwise (le := fun a b => SrtO.lexB b a = false) (fun a b _ _ q1 q2 => ?_) h1 h2 p
  have a1 := SrtO.lexB_no.mp q1
  have a2 := SrtO.lexB_no.mp q2
  exact Prod.ext (by omega) (by omega)
theorem srtH_in {hp : Hl} (h : SrtH hp) (T : List Int) : SrtH (cellsIn hp T) := h.sublist List.filter_sublist
/-- keys once and in order: one above another -/
theorem srtH_keys {hp : Hl} (h : SrtH hp) (nd : (keysH hp).Nodup) : (keysH hp).Pairwise (· < ·) := by
  have n : hp.Pairwise fun a b => a.1 ≠ b.1 := List.pairwise_map.mp nd
  refine List.pairwise_map.mpr ((h.and n).imp fun {a b} q => ?_)
  have a1 := SrtO.lexB_no.mp q.1
  have := q.2
  omega
end L2.Hx

/-! Lost cells and joined clauses: what is had of the rings' law. -/
namespace L2.Hx
open PySem PySem.Spec PyProof.Rows
def Sm (n : Int) : Prop := n.natAbs.log2 < 1920
def HpSm (hp : Hl) : Prop := hp.length ≤ 1300 ∧ ∀ c ∈ hp, Sm c.1 ∧ Sm c.2
theorem pairD_okd {c : Int × Int} (h : Sm c.1 ∧ Sm c.2) : Okd 1 3849 (pairD c) := by
  refine Okd.tup (k := 0) (n := 1921) (m := 2) (fun z m => ?_) (Nat.le_refl 2)
  rcases List.mem_cons.mp m with rfl | m
  · exact ⟨decide_eq_true h.1, Nat.zero_le _, Nat.le_refl _⟩
  · rw [List.mem_singleton.mp m]
    exact ⟨decide_eq_true h.2, Nat.zero_le _, Nat.le_refl _⟩
theorem heapD_okd {hp : Hl} (h : HpSm hp) (f : Int × Int → Bool) : Okd 2 5300000 (heapD (hp.filter f)) := by
  refine Okd.tup (k := 1) (n := 3849) (m := 1300) (fun z m => ?_) ?_ (by decide)
  · obtain ⟨c, hc, rfl⟩ := List.mem_map.mp m
    exact pairD_okd (h.2 c (List.mem_filter.mp hc).1)
  · rw [List.length_map]
    exact Nat.le_trans (List.length_filter_le _ _) h.1
theorem heapD_okd0 {hp : Hl} (h : HpSm hp) : Okd 2 5300000 (heapD hp) := by
  have := heapD_okd h fun _ => true
  rw [List.filter_eq_self.mpr fun _ _ => rfl] at this
  exact this
theorem dueP_okd {st : Sl} {hp : Hl} {lk pt : List Row} (h : HpSm hp) : Okd 2 5300000 (dueP st hp lk pt) := by
  unfold dueP
  cases takenS st hp lk pt with
  | none => exact ⟨rfl, by simp [PyData.depth], by show 5 ≤ 5300000; decide⟩
  | some T => exact heapD_okd h _
theorem lostP_okd {st : Sl} {hp : Hl} (h : HpSm hp) : Okd 2 5300000 (lostP st hp) := by
  refine (Okd.tup (k := 0) (n := 1921) (m := 1300) (N := 5300000) (fun z m => ?_) ?_ (by decide)).mono
  · obtain ⟨c, hc, rfl⟩ := List.mem_map.mp m
    exact ⟨decide_eq_true (h.2 c (List.mem_filter.mp hc).1).1, Nat.zero_le _, Nat.le_refl _⟩
  · rw [List.length_map]
    exact Nat.le_trans (List.length_filter_le _ _) h.1
theorem three_okd {a b c : PyData} (ha : Okd 4 5300000 a) (hb : Okd 4 5300000 b) (hc : Okd 4 5300000 c) : Okd 5 16000000 (.list [a, b, c]) := by
  refine Okd.list (k := 4) (n := 5300000) (m := 3) (fun z m => ?_) (Nat.le_refl 3) (by decide)
  rcases List.mem_cons.mp m with rfl | m
  · exact ha
  · rcases List.mem_cons.mp m with rfl | m
    · exact hb
    · rw [List.mem_singleton.mp m]
      exact hc
theorem Da.nonI {K : PySem.W.Frag} {G : Hp} {v : V} (h : Da K G v .none) : v = .non := by
  cases h
  rfl
theorem str_same {z : Str} : (!decide (V.str z = V.str z)) = false := by rw [decide_eq_true rfl]; rfl
theorem str_same2 {z : Str} : decide (V.str z = V.str z) = true := decide_eq_true rfl
theorem ints_stay {K : PySem.W.Frag} {H H' : Hp} : ∀ {xs : List V} {ns : List Int}, DaAll K H xs (ns.map PyData.int) → DaAll K H' xs (ns.map PyData.int)
  | [], [], _ => .nil
  | _ :: _, n :: ns, .cons h t => by
    cases h
    exact .cons (.int n) (ints_stay t)
theorem sqT_stay {K : PySem.W.Frag} {H : Hp} {a L : Addr} {o : HO} {xs ys : List V} (h : SqT K H a xs) (hL : H L = some (.lst ys)) : SqT K (upd H L o) a xs := by
  rcases h with (q | ⟨o2, q⟩) | q
  · refine .inl (.inl ?_)
    rw [upd_ne fun e => ?_]
    · exact q
    · rw [e, hL] at q
      cases q
  · refine .inl (.inr ⟨o2, ?_⟩)
    rw [upd_ne fun e => ?_]
    · exact q
    · rw [e, hL] at q
      cases q
  · exact .inr q
theorem behindS {N I : St → Hp → Prop} {A : Prop} (main : (∀ σ H2, I σ H2 → N σ H2) → A) (fin : ∀ σ H2, I σ H2 → N σ H2) : A := main fin
theorem Wd.grow {p l : Addr} {G H H' : Hp} (W : Wd p l G H) (s : Same H H') : ∃ G2, Ext p l G H G2 H' ∧ ∀ b, H b = none → G2 b = H' b := by
  have hp : ∃ o, H p = some o := by
    obtain ⟨m, t, _, _, h⟩ := W.dk
    exact ⟨_, h⟩
  have hl : ∃ o, H l = some o := by
    obtain ⟨m, _, h⟩ := W.ls
    exact ⟨_, h⟩
  refine ⟨fun b => if (H b).isNone = true then H' b else G b, ⟨⟨fun b o q => ?_, ?_, ?_, ?_, ?_⟩, fun b o q => ?_, fun b o _ _ q => s _ _ q, fun b o q g => ?_⟩, fun b q => ?_⟩
  · split at q
    · exact q
    · exact s _ _ (W.same _ _ q)
  · obtain ⟨o, e⟩ := hp
    show (if (H p).isNone = true then H' p else G p) = none
    rw [e]
    exact W.gp
  · obtain ⟨o, e⟩ := hl
    show (if (H l).isNone = true then H' l else G l) = none
    rw [e]
    exact W.gl
  · obtain ⟨m, t, a, b, h⟩ := W.dk
    exact ⟨m, t, a, b, s _ _ h⟩
  · obtain ⟨m, a, h⟩ := W.ls
    exact ⟨m, a, s _ _ h⟩
  · show (if (H b).isNone = true then H' b else G b) = some o
    rw [W.same _ _ q]
    exact q
  · show (if (H b).isNone = true then H' b else G b) = none
    rw [q]
    exact g
  · show (if (H b).isNone = true then H' b else G b) = H' b
    rw [q]
    rfl
theorem perm_map_inv {α β : Type} {f : α → β} {ys zs : List β} (h : ys.Perm zs) : ∀ L : List α, zs = L.map f → ∃ M : List α, ys = M.map f ∧ M.Perm L := by
  induction h with
  | nil =>
    intro L e
    cases L with
    | nil => exact ⟨[], rfl, .refl _⟩
    | cons a L => cases e
  | cons x _ ih =>
    intro L e
    cases L with
    | nil => cases e
    | cons a L =>
      injection e with e1 e2
      obtain ⟨M, m1, m2⟩ := ih L e2
      exact ⟨a :: M, by rw [m1, e1]; rfl, m2.cons a⟩
  | swap x y l =>
    intro L e
    cases L with
    | nil => cases e
    | cons a L =>
      cases L with
      | nil => cases e
      | cons b L =>
        injection e with e1 e2
        injection e2 with e2 e3
        exact ⟨b :: a :: L, by rw [e1, e2, e3]; rfl, List.Perm.swap _ _ _⟩
  | trans _ _ ih1 ih2 =>
    intro L e
    obtain ⟨M2, e2, p2⟩ := ih2 L e
    obtain ⟨M1, e1, p1⟩ := ih1 M2 e2
    exact ⟨M1, e1, p1.trans p2⟩
theorem paired_map {α β γ : Type} {R : α → β → Prop} {f : γ → α} {g : γ → β} : ∀ {L : List γ}, (∀ q ∈ L, R (f q) (g q)) → Paired R (L.map f) (L.map g)
  | [], _ => .nil
  | q :: L, h => .cons (h q List.mem_cons_self) (paired_map fun x m => h x (List.mem_cons_of_mem _ m))
theorem zip_tup {H : Hp} : ∀ {ts : List Addr} {ns us : List Int}, Paired (fun (t : Addr) (q : V × V) => H t = some (.tup [q.1, q.2])) ts ((ns.map V.int).zip (us.map V.int)) → ∀ q ∈ ts.zip (ns.zip us), H q.1 = some (.tup [.int q.2.1, .int q.2.2])
  | [], _, _, _, q, m => absurd m List.not_mem_nil
  | _ :: _, [], _, h, _, _ => by cases h
  | _ :: _, _ :: _, [], h, _, _ => by cases h
  | t :: ts, n :: ns, u :: us, .cons h r, q, m => by
    rcases List.mem_cons.mp m with rfl | m
    · exact h
    · exact zip_tup r q m
theorem heap_of {H : Hp} {ts : List Addr} {ns us : List Int} {ys : List V} (h : Paired (fun (t : Addr) (q : V × V) => H t = some (.tup [q.1, q.2])) ts ((ns.map V.int).zip (us.map V.int))) (p : ys.Perm (ts.map V.ref)) :
    ∃ (ps : List Addr) (hp : Hl), ys = ps.map V.ref ∧ Paired (fun (p : Addr) (kv : Key × V) => H p = some (.tup [kV kv.1, kv.2])) ps (hpK hp) ∧ hp.Perm (ns.zip us) := by
  have hl : ts.length = (ns.zip us).length := by
    have := paired_len h
    rw [this, List.length_zip, List.length_zip, List.length_map, List.length_map]
  have e1 : (ts.zip (ns.zip us)).map (·.1) = ts := List.map_fst_zip (Nat.le_of_eq hl)
  have e2 : (ts.zip (ns.zip us)).map (·.2) = ns.zip us := List.map_snd_zip (Nat.le_of_eq hl.symm)
  have e3 : ts.map V.ref = (ts.zip (ns.zip us)).map fun q => V.ref q.1 := by
    conv => lhs; rw [← e1]
    rw [List.map_map]
    rfl
  obtain ⟨M, m1, m2⟩ := perm_map_inv p _ e3
  refine ⟨M.map (·.1), M.map (·.2), by rw [m1, List.map_map]; rfl, ?_, ?_⟩
  · unfold hpK
    rw [List.map_map]
    exact paired_map fun q m => zip_tup h q (m2.mem_iff.mp m)
  · have := m2.map (·.2)
    rw [e2] at this
    exact this
theorem heap_fine {ns us : List Int} {hp : Hl} (le : ns.length = us.length) (nd : ns.Nodup) (l : ns.length ≤ 1300) (sn : ∀ n ∈ ns, Sm n) (su : ∀ u ∈ us, Sm u) (p : hp.Perm (ns.zip us)) : HpOk hp ∧ HpSm hp := by
  have e1 : (ns.zip us).map (·.1) = ns := List.map_fst_zip (Nat.le_of_eq le)
  have lz : hp.length = ns.length := by
    rw [p.length_eq, List.length_zip, le, Nat.min_self]
  refine ⟨⟨?_, by omega⟩, by omega, fun c m => ?_⟩
  · have q : (keysH hp).Perm ns := by
      have := p.map (·.1)
      rw [e1] at this
      exact this
    exact q.nodup_iff.mpr nd
  · have q := List.of_mem_zip (p.mem_iff.mp m)
    exact ⟨sn _ q.1, su _ q.2⟩
theorem erase_ints : ∀ (ns : List Int) (j : Nat), (ns.map V.int).eraseIdx j = (ns.eraseIdx j).map V.int
  | [], _ => rfl
  | _ :: _, 0 => rfl
  | n :: ns, j + 1 => congrArg (V.int n :: ·) (erase_ints ns j)
def spShufI (K : PySem.W.Frag) : Sp := fun vs H Q _ => ∃ (p l : Addr) (G : Hp) (a : Addr) (ws : List Int), vs = [.ref p, .ref a] ∧ Wd p l G H ∧ SqL K H a (ws.map V.int) ∧ ws.length ≤ 1000 ∧
  ∀ (r : Addr) (ys : List Int) (G' H' : Hp), Ext p l G H G' H' → G' r = some (.lst (ys.map V.int)) → ys.Perm ws → Q (.ref r) H'
theorem sm_of {n : Int} {k : Nat} (h : n.natAbs < 2 ^ k) (h0 : 0 < k := by decide) (hk : k < 1920 := by decide) : Sm n := Nat.lt_trans (PySem.Flt.log2_lt_of h0 h) hk
theorem at_int {ns : List Int} {i : Int} (h0 : 0 ≤ i) (h1 : i < ns.length) : ∃ n, atI (ns.map V.int) i = some (.int n) ∧ n ∈ ns := by
  obtain ⟨x, e, m⟩ := atI_nat2 (xs := ns.map V.int) h0 (by rw [List.length_map]; exact h1)
  obtain ⟨n, hn, rfl⟩ := List.mem_map.mp m
  exact ⟨n, e, hn⟩
theorem cut1 {xs : List V} (h : 1 ≤ xs.length) : cutV xs (some 1) none = xs.drop 1 := by
  have e : HT.sIx xs.length 0 (some 1) = 1 := by
    have := HT.sIx_nat xs.length 0 1
    rw [Nat.min_eq_left h] at this
    exact this
  unfold cutV
  rw [HT.sIx_none, e, List.take_of_length_le]
  rw [List.length_drop]
  exact Nat.le_refl _
theorem Same.none {H H' : Hp} {b : Addr} (s : Same H H') (h : H' b = none) : H b = none := by
  cases e : H b with
  | none => rfl
  | some o =>
    rw [s _ _ e] at h
    cases h
theorem paired_mono {α β : Type} {R S : α → β → Prop} : ∀ {xs : List α} {ys : List β}, (∀ a ∈ xs, ∀ b, R a b → S a b) → Paired R xs ys → Paired S xs ys
  | _, _, _, .nil => .nil
  | _, _, h, .cons a r => .cons (h _ List.mem_cons_self _ a) (paired_mono (fun x m => h x (List.mem_cons_of_mem _ m)) r)
theorem asg_by {t : TE} {σ : St} {H : Hp} {D : Ends} {i : Nat} {I : V → Hp → Prop} (h : ∀ Q : VK, (∀ u H2, I u H2 → Q u H2) → t σ H Q) (k : ∀ u H2, I u H2 → D.nx (σ.set i (some u)) H2) : tAsg t (gName i) D σ H := h _ k
def IntSm (d : PyData) : Prop := ∃ n : Int, d = .int n ∧ Sm n
def StrIn (L : List Str) (d : PyData) : Prop := ∃ z ∈ L, d = .str z
theorem paired_snoc {α β : Type} {F : α → β → Prop} {as : List α} {bs : List β} {a : α} {b : β} (h : Paired F as bs) (h2 : F a b) : Paired F (as ++ [a]) (bs ++ [b]) := by
  induction h with
  | nil => exact .cons h2 .nil
  | cons p t ih => exact .cons p ih
theorem getS_mem {k : Str} : ∀ {st : Sl}, k ∈ st.map (·.1) → ∃ n, getS st k = some n
  | [], h => absurd h List.not_mem_nil
  | c :: st, h => by
    by_cases e : c.1 = k
    · refine ⟨c.2, ?_⟩
      unfold getS
      rw [List.find?_cons, decide_eq_true e]
      rfl
    · have e2 : getS (c :: st) k = getS st k := by
        unfold getS
        rw [List.find?_cons, decide_eq_false e]
      rw [e2]
      exact getS_mem ((List.mem_cons.mp h).resolve_left fun z => e z.symm)
theorem kn_of {st : Sl} {t : Str} (h : t = "nil" ∨ t ∈ st.map (·.1)) : Kn st t := by
  unfold Kn worth
  by_cases e : t = "nil"
  · rw [if_pos e]
    exact ⟨0, rfl⟩
  · rw [if_neg e]
    exact getS_mem (h.resolve_left e)
section
variable {p l : Addr} {σ : St} {G : Hp} {K : PySem.W.Frag}
theorem td_strL {z : Str} {L : List Str} (h : z ∈ L := by decide +kernel) : TD K p l σ G (tC (.str z)) (StrIn L) := .flat (fun _ => .str z) ⟨z, h, rfl⟩
theorem TD.asgL1 {t : TE} {φ : PyData → Prop} {i : Nat} {D : Ends} {H : Hp} (h : TD K p l σ G t φ) (W : Wd p l G H) (k : ∀ v d G2 H2, Ext p l G H G2 H2 → Da K G2 v d → φ d → ∀ L, H2 L = none → D.nx (σ.set i (some (.ref L))) (upd H2 L (.lst [v]))) : tAsg (tLst (tCons t tNil)) (gName i) D σ H :=
  h G H _ W (Same.refl G) fun v d G2 H2 e da f => ⟨by show 1 ≤ sizeLine; decide, fun L hL => k v d G2 H2 e da f L hL⟩
theorem td_sm {i : Int} (h : i.natAbs < 2 ^ 100 := by decide) : TD K p l σ G (tC (.int i)) IntSm := .flat (fun _ => .int _) ⟨i, rfl, sm_of h⟩
theorem pick_two {K : PySem.W.Frag} {L : List Str} {z1 z2 : Str} {i : Nat} {H : Hp} {Q : VK} (hd : σ[i]? = some (some (.ref p))) (h1 : z1 ∈ L) (h2 : z2 ∈ L) (W : Wd p l G H) (k : ∀ z G2 H2, z ∈ L → Ext p l G H G2 H2 → Q (.str z) H2) :
    tCall spPick [] E0 (tCons (tVar i) (tCons (tLst (tCons (tC (.str z1)) (tCons (tC (.str z2)) tNil))) tNil)) σ H Q :=
  TD.run (K := K) (p := p) (l := l) (G := G) (φ := StrIn L) (td_pick (td_lstF (tds_consF (td_strL h1) (tds_consF (td_strL h2) tds_nilF))) hd) W fun v d G2 H2 e da f => by
    obtain ⟨z, m, rfl⟩ := f
    cases da
    exact k z G2 H2 m e
theorem pick_var {L : List Str} {vt : V} {dt : PyData} {i j : Nat} {H : Hp} {Q : VK} (hd : σ[i]? = some (some (.ref p))) (hj : σ[j]? = some (some vt)) (da : Da K G vt dt) (f : LsP (StrIn L) dt) (W : Wd p l G H) (k : ∀ z G2 H2, z ∈ L → Ext p l G H G2 H2 → Q (.str z) H2) :
    tCall spPick [] E0 (tCons (tVar i) (tCons (tVar j) tNil)) σ H Q :=
  TD.run (K := K) (p := p) (l := l) (G := G) (φ := StrIn L) (td_pick (td_var hj da f) hd) W fun v d G2 H2 e da f => by
    obtain ⟨z, m, rfl⟩ := f
    cases da
    exact k z G2 H2 m e
theorem pick_int {K : PySem.W.Frag} {z1 z2 z3 : Int} {i : Nat} {H : Hp} {Q : VK} (hd : σ[i]? = some (some (.ref p))) (W : Wd p l G H) (k : ∀ z G2 H2, Sm z → Ext p l G H G2 H2 → Q (.int z) H2) (h1 : z1.natAbs < 2 ^ 100 := by decide) (h2 : z2.natAbs < 2 ^ 100 := by decide) (h3 : z3.natAbs < 2 ^ 100 := by decide) :
    tCall spPick [] E0 (tCons (tVar i) (tCons (tLst (tCons (tC (.int z1)) (tCons (tC (.int z2)) (tCons (tC (.int z3)) tNil)))) tNil)) σ H Q :=
  TD.run (K := K) (p := p) (l := l) (G := G) (φ := IntSm) (td_pick (td_lstF (tds_consF (td_sm h1) (tds_consF (td_sm h2) (tds_consF (td_sm h3) tds_nilF)))) hd) W fun v d G2 H2 e da f => by
    obtain ⟨z, rfl, m⟩ := f
    cases da
    exact k z G2 H2 m e
end
section
variable {P : Program} {w : World} {K : PySem.W.Frag} {mg : Str → Option Value} {base : Heap}
theorem D_l_shuffled (T : Txt K mg) : Df P w K mg base 2 "_law_shuffled" ["deck", "items"] (spShufI K) := by
  have D_l_draw := D_draw (P := P) (w := w) (base := base) T
  obtain ⟨f, fd, S⟩ := T.d_l_shuffled
  refine Df.mk' (k := 1) S sc_l_shuffled (fun vs H Q E h => ?_) (fun cdv A outer s H vs Q E hgd hr h => ?_)
  · obtain ⟨p, l, G, a, ws, rfl, _⟩ := h
    rfl
  · obtain ⟨p, l, G, a, ws, rfl, W, aL, lw, k⟩ := h
    have line5 : (5000 : Nat) ≤ sizeLine := by decide
    refine ⟨_, (pss_cons (ps_par (i := 2) (j := 3) (by rfl) sc_l_shuffled.nd rfl rfl (by decide) rfl rfl (pa_cons (pe_callTy call_list_of (by rfl) T.b_list (by decide +kernel) (pa_cons (pv 1) pa_nil)) (pa_cons (pe_lst pa_nil) pa_nil)) (by rfl))
      (pss_cons (ps_while PassesOwn.never (pt_cmpR (op_neD hr.units) (pv 2) (pe_lst pa_nil) (nomark _)) (pss_one (ps_expr (pe_bm PySem.F.plainAttrs_list PySem.F.slot_list_append PySem.F.type_list_append mt_append (pv 3) (pa_cons (pe_bm PySem.F.plainAttrs_list PySem.F.slot_list_pop PySem.F.type_list_pop mt_popAt (pv 2) (pa_cons (pe_d D_l_draw hgd hr (pa_cons (pv 0) (pa_cons (pe_callB call_len_seq (by rfl) T.b_len (by decide +kernel) (pa_cons (pv 2) pa_nil)) pa_nil))) pa_nil)) pa_nil)))))
      (pss_one (ps_ret (pv 3))))), ?_⟩
    refine ⟨_, rfl, a, ws.map V.int, rfl, .inl aL, fun q hq => ⟨Nat.zero_le _, fun r hr' => ⟨_, _, rfl, ?_⟩⟩⟩
    have nqr : q ≠ r := fun e => by
      rw [← e, upd_same] at hr'
      cases hr'
    have e1 := W.tmp (o := .lst (ws.map V.int)) hq
    have e2 := e1.w.tmp (o := .lst []) hr'
    have qp := W.np hq
    have ql := W.nl hq
    have rp := e1.w.np hr'
    have rl := e1.w.nl hr'
    have gq : G q = none := W.same.free hq
    have gr : G r = none := e1.w.same.free hr'
    have hr0 : H r = none := by
      cases z : H r with
      | none => rfl
      | some o2 =>
        rw [upd_ne nqr.symm, z] at hr'
        cases hr'
    have E2 := e1.trans W e2
    have q2 : (upd (upd H q (.lst (ws.map V.int))) r (.lst [])) q = some (.lst (ws.map V.int)) := by rw [upd_ne nqr, upd_same]
    have r2 : (upd (upd H q (.lst (ws.map V.int))) r (.lst [])) r = some (.lst (([] : List Int).map V.int)) := upd_same
    generalize upd (upd H q (.lst (ws.map V.int))) r (.lst []) = H2 at E2 q2 r2 ⊢
    refine ⟨fun m σ H3 => σ = [some (.ref p), some (.ref a), some (.ref q), some (.ref r)] ∧ ∃ xs ys : List Int, m = xs.length ∧ (xs ++ ys).Perm ws ∧ Ext p l G H G H3 ∧ H3 q = some (.lst (xs.map V.int)) ∧ H3 r = some (.lst (ys.map V.int)),
      ⟨ws.length, rfl, ws, [], rfl, by rw [List.append_nil], E2, q2, r2⟩, ?_⟩
    rintro m σ H3 ⟨rfl, xs, ys, rfl, pm, E3, q3, r3⟩
    have lxy : xs.length + ys.length = ws.length := by rw [← List.length_append]; exact pm.length_eq
    refine ⟨_, rfl, Nat.zero_le _, fun t ht => ?_⟩
    have nqt : q ≠ t := fun e => by
      rw [← e, q3] at ht
      cases ht
    have nrt : r ≠ t := fun e => by
      rw [← e, r3] at ht
      cases ht
    have E4 := E3.trans W (E3.w.tmp (o := .lst []) ht)
    have q4 : (upd H3 t (.lst [])) q = some (.lst (xs.map V.int)) := by rw [upd_ne nqt]; exact q3
    have r4 : (upd H3 t (.lst [])) r = some (.lst (ys.map V.int)) := by rw [upd_ne nrt]; exact r3
    refine ⟨.list (xs.map PyData.int), .list [], .lst (SqL.of q4) (dp_ints xs), .lst (SqL.of upd_same) .nil, shaped_ints xs, rfl, _, rfl, ?_⟩
    rw [eqv_nil]
    generalize upd H3 t (.lst []) = H4 at E4 q4 r4 ⊢
    refine iteNot (fun hn => ?_) (fun hn => ?_)
    · have ne : xs ≠ [] := of_decide_eq_false hn
      have pos : 0 < xs.length := List.length_pos_iff.mpr ne
      refine ⟨fun σ H5 => σ = [some (.ref p), some (.ref a), some (.ref q), some (.ref r)] ∧ ∃ xs2 ys2 : List Int, xs2.length < xs.length ∧ (xs2 ++ ys2).Perm ws ∧ Ext p l G H G H5 ∧ H5 q = some (.lst (xs2.map V.int)) ∧ H5 r = some (.lst (ys2.map V.int)),
        fun σ H5 ⟨e, xs2, ys2, lt, h⟩ => ⟨xs2.length, lt, e, xs2, ys2, rfl, h⟩, ?_⟩
      refine ⟨_, rfl, .inl ⟨rfl, _, SqL.of r4⟩, _, rfl, .inl ⟨rfl, _, SqL.of q4⟩, _, rfl, _, rfl, q, xs.map V.int, rfl, .inl (SqL.of q4), p, l, G, _, rfl, by rw [List.length_map]; omega, by rw [List.length_map]; omega, E4.w, fun d H5 d0 d1 e5 => ?_⟩
      rw [List.length_map] at d1
      have dn : d.toNat < xs.length := by omega
      have q5 := e5.keep _ _ qp ql q4
      have r5 := e5.keep _ _ rp rl r4
      have pm2 : (xs.eraseIdx d.toNat ++ (ys ++ [xs[d.toNat]])).Perm ws := by
        refine List.Perm.trans ?_ pm
        refine List.Perm.trans ?_ ((erase_perm xs d.toNat dn).append_right ys)
        rw [← List.append_assoc]
        exact List.perm_append_comm
      refine ⟨q, xs.map V.int, d, d.toNat, .int xs[d.toNat], rfl, rfl, q5, by omega, by omega, ?_, by rw [List.getElem?_map, List.getElem?_eq_getElem dn]; rfl, ?_⟩
      · rw [List.length_map]
        have d2 : ¬ d < 0 := by omega
        simp [seqIndex?, d2, d0, d1]
      · have E5 := (E4.trans W e5)
        have W6 := E5.w.own (o := .lst ((xs.map V.int).eraseIdx d.toNat)) qp ql gq
        refine ⟨r, ys.map V.int, _, rfl, rfl, by rw [upd_ne nqr.symm]; exact r5, by rw [List.length_map]; omega, rfl, xs.eraseIdx d.toNat, ys ++ [xs[d.toNat]], ?_, pm2, ?_, ?_, ?_⟩
        · rw [List.length_eraseIdx_of_lt dn]
          omega
        · refine ⟨W6.own rp rl gr, Same.refl G, fun b o n1 n2 hb => ?_, fun b o hb g => g⟩
          rw [upd_ne (ne_of_none hb hr0), upd_ne (ne_of_none hb hq)]
          exact E5.keep b o n1 n2 hb
        · rw [upd_ne nqr, upd_same, erase_ints]
        · rw [upd_same, List.map_append]
          rfl
    · have ne : xs = [] := of_decide_eq_true hn
      subst ne
      obtain ⟨W5, s5⟩ := E4.w.hold rp rl gr r4
      refine ⟨_, rfl, k r ys _ H4 ⟨W5, s5, E4.keep, fun b o hb g => ?_⟩ upd_same pm⟩
      rw [upd_ne (ne_of_none hb hr0)]
      exact g
end
end L2.Hx

/-! Lost cells and joined clauses: looks, parts, clauses. -/
namespace L2.Hx
open PySem PySem.Spec PyProof.Rows
def In2 (ts : List Str) (r : Row) : Prop := r.2.1 ∈ ts ∧ r.2.2 ∈ ts
def spRow8 (K : PySem.W.Frag) : Sp := fun vs H Q _ => ∃ (p l : Addr) (G : Hp) (a : Addr) (ts : List Str), vs = [.ref p, .ref a] ∧ Wd p l G H ∧ G a = some (.lst (ts.map V.str)) ∧ 0 < ts.length ∧ ts.length ≤ 1000 ∧
  ∀ (u : V) (r : Row) (G2 H2 : Hp), Ext p l G H G2 H2 → Da K G2 u (lrowD r) → In2 ts r → Q u H2
def spClause (K : PySem.W.Frag) : Sp := fun vs H Q _ => ∃ (p l : Addr) (G : Hp) (a : Addr) (ts : List Str) (looks parts : Int), vs = [.ref p, .ref a, .int looks, .int parts] ∧ Wd p l G H ∧ G a = some (.lst (ts.map V.str)) ∧ 0 < ts.length ∧ ts.length ≤ 1000 ∧ 0 ≤ looks ∧ looks ≤ 5 ∧ 0 ≤ parts ∧ parts ≤ 5 ∧
  ∀ (u : V) (lk pt : List Row) (G2 H2 : Hp), Ext p l G H G2 H2 → Da K G2 u (lclauseD lk pt) → lk.length ≤ 5 → pt.length ≤ 5 → (∀ r ∈ lk, In2 ts r) → (∀ r ∈ pt, In2 ts r) → Q u H2
theorem pick_g {K : PySem.W.Frag} {p l : Addr} {σ : St} {G H : Hp} {i j : Nat} {a : Addr} {ts : List Str} {Q : VK} (hd : σ[i]? = some (some (.ref p))) (hj : σ[j]? = some (some (.ref a))) (ha : G a = some (.lst (ts.map V.str))) (h0 : 0 < ts.length) (h1 : ts.length ≤ 1000) (W : Wd p l G H)
    (k : ∀ z H2, z ∈ ts → Ext p l G H G H2 → Q (.str z) H2) : tCall spPick [] E0 (tCons (tVar i) (tCons (tVar j) tNil)) σ H Q := by
  refine ⟨_, hd, _, hj, p, l, G, a, ts.map V.str, rfl, W, W.same _ _ ha, fun e => ?_, fun e => ?_, by rw [List.length_map]; exact h0, by rw [List.length_map]; omega, fun x H2 mx e => ?_⟩
  · rw [e, W.gp] at ha
    cases ha
  · rw [e, W.gl] at ha
    cases ha
  · obtain ⟨z, mz, rfl⟩ := List.mem_map.mp mx
    exact k z H2 mz e
section
variable {P : Program} {w : World} {K : PySem.W.Frag} {mg : Str → Option Value} {base : Heap}
/-- from a tuple -/
def spPickT (K : PySem.W.Frag) : Sp := fun vs H Q _ => ∃ (p l : Addr) (G : Hp) (a : Addr) (xs : List V), vs = [.ref p, .ref a] ∧ Wd p l G H ∧ SqT K G a xs ∧ 0 < xs.length ∧ xs.length < 1000000 ∧ ∀ x H', x ∈ xs → Ext p l G H G H' → Q x H'
theorem D_pickT (T : Txt K mg) : Df P w K mg base 2 "_law_pick" ["deck", "items"] (spPickT K) := by
  have D_l_draw := D_draw (P := P) (w := w) (base := base) T
  obtain ⟨f, fd, S⟩ := T.d_l_pick
  refine Df.mk' (k := 1) S sc_l_pick (fun vs H Q E h => ?_) (fun cdv A outer s H vs Q E hgd hr h => ?_)
  · obtain ⟨p, l, G, a, xs, rfl, _⟩ := h
    rfl
  · obtain ⟨p, l, G, a, xs, rfl, W, ha, h0, h1, k⟩ := h
    refine ⟨_, (pss_one (ps_ret (pe_ix ix_tup (pv 1) (pe_d D_l_draw hgd hr (pa_cons (pv 0) (pa_cons (pe_callB call_len_seq (by rfl) T.b_len (by decide +kernel) (pa_cons (pv 1) pa_nil)) pa_nil))) (fun _ _ => rfl)))), ?_⟩
    refine ⟨_, rfl, _, rfl, _, rfl, a, xs, rfl, .inr (sameT W.same ha), p, l, G, _, rfl, by omega, by omega, W, fun r H1 r0 r1 e => ?_⟩
    obtain ⟨x, hx, mx⟩ := atI_nat2 r0 r1
    exact ⟨a, xs, r, x, rfl, rfl, sameT e.w.same ha, hx, k x H1 mx e⟩
theorem D_l_look (T : Txt K mg) : Df P w K mg base 3 "_law_look" ["deck", "terms"] (spRow8 K) := by
  have D_l_pick := D_pick (P := P) (w := w) (base := base) T
  obtain ⟨f, fd, S⟩ := T.d_l_look
  refine Df.mk' (k := 2) S sc_l_look (fun vs H Q E h => ?_) (fun cdv A outer s H vs Q E hgd hr h => ?_)
  · obtain ⟨p, l, G, a, ts, rfl, _⟩ := h
    rfl
  · obtain ⟨p, l, G, a, ts, rfl, W, ha, h0, h1, k⟩ := h
    refine ⟨_, (pss_one (ps_ret (pe_tup (pa_cons (pe_d D_l_pick hgd hr (pa_cons (pv 0) (pa_cons (pe_lst (pa_cons pe_str (pa_cons pe_str pa_nil))) pa_nil))) (pa_cons (pe_d D_l_pick hgd hr (pa_cons (pv 0) (pa_cons (pv 1) pa_nil))) (pa_cons (pe_d D_l_pick hgd hr (pa_cons (pv 0) (pa_cons (pv 1) pa_nil))) pa_nil)))))), ?_⟩
    refine pick_two (K := K) (L := ["is", "isnt"]) rfl (by decide +kernel) (by decide +kernel) W (fun z1 G1 H1 m1 e1 => ?_)
    refine pick_g (K := K) rfl rfl (e1.sub _ _ ha) h0 h1 e1.w (fun z2 H2 m2 e2 => ?_)
    refine pick_g (K := K) rfl rfl (e1.sub _ _ ha) h0 h1 e2.w (fun z3 H3 m3 e3 => ⟨by show 3 ≤ sizeLine; decide, fun t ht => ?_⟩)
    have e4 := e3.w.put (o := .tup [V.str z1, .str z2, .str z3]) ht
    exact k _ (z1, z2, z3) _ _ (((e1.trans W e2).trans W e3).trans W e4) (.tup (SqT.of upd_same) (.cons (.str _) (.cons (.str _) (.cons (.str _) .nil)))) ⟨m2, m3⟩
theorem D_l_part (T : Txt K mg) : Df P w K mg base 3 "_law_part" ["deck", "terms"] (spRow8 K) := by
  have D_l_pick := D_pick (P := P) (w := w) (base := base) T
  obtain ⟨f, fd, S⟩ := T.d_l_part
  refine Df.mk' (k := 2) S sc_l_part (fun vs H Q E h => ?_) (fun cdv A outer s H vs Q E hgd hr h => ?_)
  · obtain ⟨p, l, G, a, ts, rfl, _⟩ := h
    rfl
  · obtain ⟨p, l, G, a, ts, rfl, W, ha, h0, h1, k⟩ := h
    refine ⟨_, (pss_one (ps_ret (pe_tup (pa_cons (pe_d D_l_pick hgd hr (pa_cons (pv 0) (pa_cons (pe_lst (pa_cons pe_str (pa_cons pe_str (pa_cons pe_str pa_nil)))) pa_nil))) (pa_cons (pe_d D_l_pick hgd hr (pa_cons (pv 0) (pa_cons (pv 1) pa_nil))) (pa_cons (pe_d D_l_pick hgd hr (pa_cons (pv 0) (pa_cons (pv 1) pa_nil))) pa_nil)))))), ?_⟩
    refine TD.run (K := K) (p := p) (l := l) (G := G) (φ := StrIn ["cell", "list"]) (t := tCall spPick [] E0 (tCons (tVar 0) (tCons (tLst (tCons (tC (.str "cell")) (tCons (tC (.str "list")) (tCons (tC (.str "list")) tNil)))) tNil))) (td_pick (td_lstF (tds_consF (td_strL) (tds_consF (td_strL) (tds_consF (td_strL) tds_nilF)))) rfl) W (fun v d G1 H1 e1 da1 f1 => ?_)
    obtain ⟨z1, m1, rfl⟩ := f1
    cases da1
    refine pick_g (K := K) rfl rfl (e1.sub _ _ ha) h0 h1 e1.w (fun z2 H2 m2 e2 => ?_)
    refine pick_g (K := K) rfl rfl (e1.sub _ _ ha) h0 h1 e2.w (fun z3 H3 m3 e3 => ⟨by show 3 ≤ sizeLine; decide, fun t ht => ?_⟩)
    have e4 := e3.w.put (o := .tup [V.str z1, .str z2, .str z3]) ht
    exact k _ (z1, z2, z3) _ _ (((e1.trans W e2).trans W e3).trans W e4) (.tup (SqT.of upd_same) (.cons (.str _) (.cons (.str _) (.cons (.str _) .nil)))) ⟨m2, m3⟩
/-- rows drawn one behind the other -/
theorem rows_run {p l : Addr} {G H : Hp} {a D : Addr} {ts : List Str} {n : Nat} {o2 o3 o4 o5 : Option V} {Qd : Hp → Prop} (W : Wd p l G H) (hD : H D = none) (ha : G a = some (.lst (ts.map V.str))) (h0 : 0 < ts.length) (h1 : ts.length ≤ 1000) (hn : n ≤ 1000)
    (hd : ∀ (G3 H3 : Hp) (us : List V) (rs : List Row), Ext p l G H G3 H3 → G3 D = some (.lst us) → DaAll K G3 us (rs.map lrowD) → rs.length = n → (∀ r ∈ rs, In2 ts r) → Qd H3) :
    ∃ W : Nat → Nat → Hp → Prop, (∃ m, W 0 m (upd H D (.lst []))) ∧ ∀ i m H, W i m H →
      ((Itr 0 n).stop i H ∧ Qd H) ∨ ((Itr 0 n).go i H ∧ ∃ Nx : Hp → Prop, (∀ H', Nx H' → ∃ m', m' < m ∧ W (i + 1) m' H') ∧ ∀ x H', (Itr 0 n).yld i H x H' → gName 5 x (wipe [some (.ref p), some (.ref a), o2, o3, o4, o5] [5]) H' fun σ2 H2 => wipe σ2 [5] = wipe [some (.ref p), some (.ref a), o2, o3, o4, o5] [5] ∧ tYes σ2 H2 fun b H3 =>
        if b = true then tCall (spRow8 K) [] E0 (tCons (tVar 0) (tCons (tVar 1) tNil)) σ2 H3 fun y H4 => ∃ acc, H4 D = some (.lst acc) ∧ acc.length < sizeLine ∧ Nx (upd H4 D (.lst (acc ++ [y]))) else Nx H3) := by
  have nDp := W.np hD
  have nDl := W.nl hD
  have gD := W.same.free hD
  refine lc_range (lo := 0) (n := n) (fun i H3 => ∃ (G3 : Hp) (us : List V) (rs : List Row), Wd p l G3 H3 ∧ Same G G3 ∧ G3 D = none ∧ H3 D = some (.lst us) ∧ DaAll K G3 us (rs.map lrowD) ∧ rs.length = i ∧ (∀ r ∈ rs, In2 ts r) ∧
      (∀ b o, b ≠ p → b ≠ l → b ≠ D → H b = some o → H3 b = some o) ∧ (∀ b o, H b = some o → G b = none → G3 b = none))
    ⟨G, [], [], (W.tmp hD).w, Same.refl _, gD, upd_same, .nil, rfl, fun r m => absurd m List.not_mem_nil, fun b o n1 n2 n3 q => by rw [upd_ne n3]; exact q, fun b o _ g => g⟩ ?_ ?_
  · rintro i H3 hi ⟨G3, us, rs, w3, s3, gD3, hD3, da3, l3, in3, k3, n3⟩
    have l4 : us.length = rs.length := by rw [da3.length, List.length_map]
    refine ⟨rfl, _, rfl, _, rfl, p, l, G3, a, ts, rfl, w3, s3 _ _ ha, h0, h1, fun u r G4 H4 e4 da4 in4 => ?_⟩
    have hD4 := e4.keep _ _ nDp nDl hD3
    have gD4 := e4.new _ _ hD3 gD3
    have big : (2000 : Nat) ≤ sizeLine := by decide
    refine ⟨us, hD4, by omega, G4, us ++ [u], rs ++ [r], e4.w.own nDp nDl gD4, s3.trans e4.sub, gD4, upd_same, by rw [List.map_append]; exact (da3.mono e4.sub).append (.cons da4 .nil), by rw [List.length_append, l3]; rfl, fun z m => ?_, fun b o n1 n2 n4 q => ?_, fun b o q g => ?_⟩
    · rcases List.mem_append.mp m with m | m
      · exact in3 z m
      · rw [List.mem_singleton.mp m]
        exact in4
    · rw [upd_ne n4]
      exact e4.keep _ _ n1 n2 (k3 b o n1 n2 n4 q)
    · have g3 := n3 b o q g
      by_cases b1 : b = p
      · subst b1
        exact e4.w.gp
      · by_cases b2 : b = l
        · subst b2
          exact e4.w.gl
        · exact e4.new b o (k3 b o b1 b2 (ne_of_none q hD) q) g3
  · rintro H3 ⟨G3, us, rs, w3, s3, gD3, hD3, da3, l3, in3, k3, n3⟩
    obtain ⟨w4, s4⟩ := w3.hold nDp nDl gD3 hD3
    refine hd (upd G3 D (.lst us)) H3 us rs ⟨w4, s3.trans s4, fun b o n1 n2 q => k3 b o n1 n2 (ne_of_none q hD) q, fun b o q g => ?_⟩ upd_same (da3.mono s4) l3 in3
    rw [upd_ne (ne_of_none q hD)]
    exact n3 b o q g
theorem D_l_clause (T : Txt K mg) : Df P w K mg base 4 "_law_clause" ["deck", "terms", "looks", "parts"] (spClause K) := by
  have D_l_draw := D_draw (P := P) (w := w) (base := base) T
  have D_l_look := D_l_look (P := P) (w := w) (base := base) T
  have D_l_part := D_l_part (P := P) (w := w) (base := base) T
  obtain ⟨f, fd, S⟩ := T.d_l_clause
  refine Df.mk' (k := 3) S sc_l_clause (fun vs H Q E h => ?_) (fun cdv A outer s H vs Q E hgd hr h => ?_)
  · obtain ⟨p, l, G, a, ts, lo, pa, rfl, _⟩ := h
    rfl
  · obtain ⟨p, l, G, a, ts, lo, pa, rfl, W, ha, h0, h1, lo0, lo1, pa0, pa1, k⟩ := h
    refine ⟨_, (pss_cons (ps_set (i := 4) sc_l_clause.nd rfl (.inl rfl) (pe_callTy call_tuple_of (by rfl) T.b_tuple (by decide +kernel) (pa_cons (pe_lc (own := [("turn", 5)]) (g := gName 5) (tt := tYes) rfl sc_l_clause.nd (pi_range1 rfl T.b_range (pa_cons (pe_d D_l_draw hgd hr (pa_cons (pv 0) (pa_cons (pe_op op_add (pv 2) pe_int) pa_nil))) pa_nil)) (blkOk_by (own := [("turn", 5)]) (N := ["deck", "terms", "looks", "parts", "first", "turn"]) (sc := defScope s_l_clause) (by decide +kernel)) (fun _ _ _ _ _ => pg_name (i := 5) sc_l_clause.nd rfl (.inl rfl)) (fun _ _ _ _ _ => pts_nil) (fun _ _ _ _ _ => (pe_d D_l_look hgd hr (pa_cons (pv 0) (pa_cons (pv 1) pa_nil))))) pa_nil)))
      (pss_one (ps_ret (pe_tup (pa_cons (pv 4) (pa_cons (pe_callTy call_tuple_of (by rfl) T.b_tuple (by decide +kernel) (pa_cons (pe_lc (own := [("turn", 5)]) (g := gName 5) (tt := tYes) rfl sc_l_clause.nd (pi_range1 rfl T.b_range (pa_cons (pe_d D_l_draw hgd hr (pa_cons (pv 0) (pa_cons (pe_op op_add (pv 3) pe_int) pa_nil))) pa_nil)) (blkOk_by (own := [("turn", 5)]) (N := ["deck", "terms", "looks", "parts", "first", "turn"]) (sc := defScope s_l_clause) (by decide +kernel)) (fun _ _ _ _ _ => pg_name (i := 5) sc_l_clause.nd rfl (.inl rfl)) (fun _ _ _ _ _ => pts_nil) (fun _ _ _ _ _ => (pe_d D_l_part hgd hr (pa_cons (pv 0) (pa_cons (pv 1) pa_nil))))) pa_nil)) pa_nil)))))), ?_⟩
    refine ⟨_, rfl, _, rfl, _, _, rfl, rfl, p, l, G, _, rfl, by omega, by omega, W, fun d H1 d0 d1 e1 => ⟨d, rfl, by omega, by omega, ?_⟩⟩
    obtain ⟨n, rfl⟩ := Int.eq_ofNat_of_zero_le d0
    refine fun D hD => rows_run (n := n) e1.w hD ha h0 h1 (by omega) (fun G2 H2 us rs e2 gD da2 l2 in2 => ?_)
    refine ⟨D, us, rfl, .inl ⟨SqL.of (e2.w.same _ _ gD), fun t ht => ?_⟩⟩
    have e3 := e2.w.put (o := .tup us) ht
    have s3 := e2.sub.trans e3.sub
    dsimp only [gName, List.set]
    refine ⟨_, rfl, _, rfl, _, rfl, _, _, rfl, rfl, p, l, _, _, rfl, by omega, by omega, e3.w, fun d4 H4 d40 d41 e4 => ⟨d4, rfl, by omega, by omega, ?_⟩⟩
    obtain ⟨m, rfl⟩ := Int.eq_ofNat_of_zero_le d40
    refine fun D2 hD2 => rows_run (n := m) e4.w hD2 (s3 _ _ ha) h0 h1 (by omega) (fun G5 H5 us5 rs5 e5 gD5 da5 l5 in5 => ?_)
    refine ⟨D2, us5, rfl, .inl ⟨SqL.of (e5.w.same _ _ gD5), fun t6 ht6 => ?_⟩⟩
    have e6 := e5.w.put (o := .tup us5) ht6
    refine ⟨by show 2 ≤ sizeLine; decide, fun t7 ht7 => ?_⟩
    have e7 := e6.w.put (o := .tup [V.ref t, .ref t6]) ht7
    have s7 := (e5.sub.trans e6.sub).trans e7.sub
    refine k _ rs rs5 _ _ ((((((e1.trans W e2).trans W e3).trans W e4).trans W e5).trans W e6).trans W e7) (.tup (SqT.of upd_same) (.cons ?_ (.cons ?_ .nil))) (by omega) (by omega) in2 in5
    · exact (Da.tup (SqT.of upd_same) (da2.mono e3.sub)).mono s7
    · exact (Da.tup (SqT.of upd_same) (da5.mono e6.sub)).mono e7.sub
end
end L2.Hx

/-! Lost cells and joined clauses: a part laid, a world. -/
namespace L2.Hx
open PySem PySem.Spec PyProof.Rows
/-- all of it from 0 to b -/
def BdH (b : Int) (hp : Hl) : Prop := ∀ c ∈ hp, (0 ≤ c.1 ∧ c.1 ≤ b) ∧ 0 ≤ c.2 ∧ c.2 ≤ b
theorem BdH.mono {b c : Int} {hp : Hl} (h : BdH b hp) (l : b ≤ c) : BdH c hp := fun x m => by
  have := h x m
  omega
def putH (hp : Hl) (k v : Int) : Hl := if k ∈ keysH hp then hp.map fun c => if c.1 = k then (k, v) else c else hp ++ [(k, v)]
theorem putH_keys (hp : Hl) (k v : Int) : keysH (putH hp k v) = if k ∈ keysH hp then keysH hp else keysH hp ++ [k] := by
  unfold putH
  by_cases h : k ∈ keysH hp
  · rw [if_pos h, if_pos h]
    unfold keysH
    rw [List.map_map]
    refine List.map_congr_left fun c _ => ?_
    show (if c.1 = k then (k, v) else c).1 = c.1
    by_cases e : c.1 = k
    · rw [if_pos e, e]
    · rw [if_neg e]
  · rw [if_neg h, if_neg h]
    exact List.map_append
theorem putH_nodup {hp : Hl} {k v : Int} (nd : (keysH hp).Nodup) : (keysH (putH hp k v)).Nodup := by
  rw [putH_keys]
  by_cases h : k ∈ keysH hp
  · rw [if_pos h]
    exact nd
  · rw [if_neg h]
    refine List.nodup_append.mpr ⟨nd, by simp, fun a ha b hb e => ?_⟩
    rw [List.mem_singleton.mp hb] at e
    rw [e] at ha
    exact h ha
theorem putH_len (hp : Hl) (k v : Int) : (putH hp k v).length ≤ hp.length + 1 := by
  unfold putH
  split
  · rw [List.length_map]
    omega
  · rw [List.length_append]
    exact Nat.le_refl _
theorem putH_bd {hp : Hl} {k v b : Int} (h : BdH b hp) (k0 : 0 ≤ k) (k1 : k ≤ b) (v0 : 0 ≤ v) (v1 : v ≤ b) : BdH b (putH hp k v) := fun c m => by
  unfold putH at m
  split at m
  · obtain ⟨d, md, rfl⟩ := List.mem_map.mp m
    split
    · exact ⟨⟨k0, k1⟩, v0, v1⟩
    · exact h d md
  · rcases List.mem_append.mp m with m | m
    · exact h c m
    · rw [List.mem_singleton.mp m]
      exact ⟨⟨k0, k1⟩, v0, v1⟩
theorem putK_hp {hp : Hl} {k v : Int} : putK (hpK hp) (.inl k) (.int v) = hpK (putH hp k v) := by
  by_cases h : k ∈ keysH hp
  · have hv : ((hpK hp).any fun kv => decide (kv.1 = (.inl k : Key))) = true := by
      rw [valV_any, valV_hp, getH_in h]
      rfl
    unfold putK putH
    rw [if_pos hv, if_pos h]
    unfold hpK
    rw [List.map_map, List.map_map]
    refine List.map_congr_left fun c _ => ?_
    show (if (Sum.inl c.1 : Key) = .inl k then ((Sum.inl c.1 : Key), V.int v) else (.inl c.1, .int c.2)) = (.inl (if c.1 = k then (k, v) else c).1, .int (if c.1 = k then (k, v) else c).2)
    by_cases e : c.1 = k
    · rw [if_pos e, if_pos (by rw [e]), e]
    · rw [if_neg e, if_neg fun q => e (Sum.inl.inj q)]
  · rw [putK_new _ (by rw [valV_hp, getH_out h]; rfl)]
    unfold putH
    rw [if_neg h]
    unfold hpK
    rw [List.map_append]
    rfl
theorem put_h {H : Hp} {D : Addr} {hp : Hl} {k v : Int} (hD : H D = some (.dK (hpK hp))) (hl : hp.length < sizeLine) : DPut H D (.int k) (.int v) (upd H D (.dK (hpK (putH hp k v)))) := by
  have := DPut.k (k := .inl k) (v := .int v) hD (by unfold hpK; rw [List.length_map]; exact hl)
  rw [putK_hp] at this
  exact this
theorem worth_bd {st : Sl} {t : Str} {b : Int} (h : ∀ x ∈ st, 0 ≤ x.2 ∧ x.2 ≤ b) (hb : 0 ≤ b) : 0 ≤ wF st t ∧ wF st t ≤ b := by
  unfold wF worth
  by_cases e : t = "nil"
  · rw [if_pos e]
    exact ⟨Int.le_refl 0, hb⟩
  · rw [if_neg e]
    unfold getS
    cases q : st.find? fun c => decide (c.1 = t) with
    | none => exact ⟨Int.le_refl 0, hb⟩
    | some c => exact h c (List.mem_of_find?_eq_some q)
theorem for_rng {t : TE} {g : TG} {tb : TS} {D : Ends} {σ : St} {H : Hp} {I : Nat → Hp → Prop} (h : ∀ Q : VK, (∀ (n : Nat) H2, I n H2 → Q (.int (n : Int)) H2) → t σ H Q) (k : ∀ (n : Nat) H2, I n H2 → tFor (iRng1 (tCons (tC (.int (n : Int))) tNil)) g tb D σ H2) :
    tFor (iRng1 (tCons t tNil)) g tb D σ H := h _ k
def spLaid (K : PySem.W.Frag) : Sp := fun vs H Q _ => ∃ (p l : Addr) (G : Hp) (v : V) (s c : Addr) (r : Row) (st : Sl) (hc : Hl) (b : Int), vs = [.ref p, v, .ref s, .ref c] ∧ Wd p l G H ∧ Da K G v (lrowD r) ∧ PrT K G s (stK st) ∧ StOk st ∧ Kn st r.2.1 ∧ Kn st r.2.2 ∧
  H c = some (.dK (hpK hc)) ∧ c ≠ p ∧ c ≠ l ∧ G c = none ∧ (keysH hc).Nodup ∧ hc.length ≤ 100 ∧ BdH b hc ∧ 6 ≤ b ∧ b ≤ 1000 ∧ (∀ x ∈ st, 0 ≤ x.2 ∧ x.2 ≤ b) ∧
  ∀ (hc' : Hl) (H2 : Hp), Wd p l G H2 → H2 c = some (.dK (hpK hc')) → (keysH hc').Nodup → hc'.length ≤ hc.length + 3 → BdH (b + 3) hc' → Q .non H2
section
variable {P : Program} {w : World} {K : PySem.W.Frag} {mg : Str → Option Value} {base : Heap}
theorem D_l_laid_part (T : Txt K mg) : Df P w K mg base 3 "_law_laid_part" ["deck", "part", "store", "cells"] (spLaid K) := by
  have D_l_draw := D_draw (P := P) (w := w) (base := base) T
  have D_l_pick := D_pick (P := P) (w := w) (base := base) T
  have D_l_worth := D_l_worth (P := P) (w := w) (base := base) T
  obtain ⟨f, fd, S⟩ := T.d_l_laid_part
  refine Df.mk' (k := 2) S sc_l_laid_part (fun vs H Q E h => ?_) (fun cdv A outer s H vs Q E hgd hr h => ?_)
  · obtain ⟨p, l, G, v, s, c, r, st, hc, b, rfl, _⟩ := h
    rfl
  · obtain ⟨p, l, G, v, sa, c, r, st, hc, b, rfl, W, da, pS, oks, kn1, kn2, hC, ncp, ncl, gC, nd, lc, bd, b6, b1, sb, k⟩ := h
    have hu := hu_of hr
    have big : (2000 : Nat) ≤ sizeLine := by decide
    obtain ⟨t0, rfl, tT⟩ := row_at da
    refine ⟨_, (pss_cons (ps_par (i := 4) (j := 5) (by rfl) sc_l_laid_part.nd rfl rfl (by decide) rfl rfl (pa_cons (pe_d D_l_worth hgd hr (pa_cons (pv 2) (pa_cons (pe_ix ix_tup (pv 1) pe_int (fun _ _ => rfl)) pa_nil))) (pa_cons (pe_d D_l_worth hgd hr (pa_cons (pv 2) (pa_cons (pe_ix ix_tup (pv 1) pe_int (fun _ _ => rfl)) pa_nil))) pa_nil)) (by rfl))
      (pss_one (ps_if (PW.pt (pw_or (pt_cmpR op_eq (pe_ix ix_tup (pv 1) pe_int (fun _ _ => rfl)) pe_str (nomark _)) (pw_or1 (pt_cmpR op_ne (pv 4) (pv 5) (nomark _))))) (pss_cons (ps_for PassesOwn.never rfl (pi_range1 rfl T.b_range (pa_cons (pe_ifExp (pt_cmpR op_eq (pe_ix ix_tup (pv 1) pe_int (fun _ _ => rfl)) pe_str (nomark _)) pe_int (pe_d D_l_draw hgd hr (pa_cons (pv 0) (pa_cons pe_int pa_nil)))) pa_nil)) (pg_name (i := 6) sc_l_laid_part.nd rfl (.inl rfl))
      (pss_cons (ps_set (i := 7) sc_l_laid_part.nd rfl (.inl rfl) (pe_d D_l_pick hgd hr (pa_cons (pv 0) (pa_cons (pe_lst (pa_cons (pe_op op_add (pe_callB (cr_max rfl) (by rfl) T.b_max (by decide +kernel) (pa_cons (pe_op op_cat (pe_callTy (call_listD rfl) (by rfl) T.b_list (by decide +kernel) (pa_cons (pv 3) pa_nil)) (pe_lst (pa_cons (pv 4) (pa_cons pe_int pa_nil)))) pa_nil)) pe_int) (pa_cons (pe_op op_add pe_int (pe_d D_l_draw hgd hr (pa_cons (pv 0) (pa_cons pe_int pa_nil)))) pa_nil))) pa_nil))))
      (pss_one (ps_if (PW.pt (pw_and (pt_cmpR op_gt (pv 4) pe_int (nomark _)) (pw_and (pt_cmp (pc_dnotin hu (pv 4) (pv 3))) (pw_and1 (pt_cmpR op_ne (pv 4) (pv 5) (nomark _)))))) (pss_cons (ps_dput hu (pv 3) (pv 4) (pv 7) rfl)
      (pss_one (ps_set (i := 4) sc_l_laid_part.nd rfl (.inl rfl) (pv 7)))) pss_nil))))
      (pss_one (ps_if (PW.pt (pw_and (pt_cmpR op_gt (pv 4) pe_int (nomark _)) (pw_and1 (pt_cmp (pc_dnotin hu (pv 4) (pv 3)))))) (pss_one (ps_dput hu (pv 3) (pv 4) (pv 5) rfl)) pss_nil))) pss_nil))), ?_⟩
    refine ⟨_, rfl, _, rfl, t0, _, 1, .str r.2.1, rfl, rfl, sameT W.same tT, rfl, sa, r.2.1, st, rfl, pS.same W.same, oks, kn1, fun H1 q1 => ?_⟩
    refine ⟨_, rfl, _, rfl, t0, _, 2, .str r.2.2, rfl, rfl, sameT (W.same.trans q1) tT, rfl, sa, r.2.2, st, rfl, pS.same (W.same.trans q1), oks, kn2, fun H2 q2 => ?_⟩
    have e2 := W.still (q1.trans q2)
    have hC2 := (q1.trans q2) _ _ hC
    have W2 := e2.w
    clear e2 q2 q1 hC
    obtain ⟨a0, a1⟩ := worth_bd (t := r.2.1) sb (by omega)
    obtain ⟨e0, e1⟩ := worth_bd (t := r.2.2) sb (by omega)
    generalize wF st r.2.1 = at0 at a0 a1 ⊢
    generalize wF st r.2.2 = en at e0 e1 ⊢
    refine ⟨_, _, rfl, ?_⟩
    dsimp only [gName, List.set]
    have sT : ∀ {H'}, Wd p l G H' → SqT K H' t0 [.str r.1, .str r.2.1, .str r.2.2] := fun w => sameT w.same tT
    refine' behindI (I := fun H' => H' = H2) (fun fin => ?_) ?_
    rotate_left 1
    · refine ⟨_, rfl, t0, _, 0, .str r.1, rfl, rfl, sT W2, rfl, rfl, _, rfl, iteB (fun _ => ?_) (fun _ => ?_)⟩
      · refine iteB (c := true) (fun _ => ?_) (fun h => nomatch h)
        exact fin _ rfl
      · refine ⟨_, rfl, _, rfl, rfl, _, rfl, iteB (fun _ => ?_) (fun _ => ?_)⟩
        · exact fin _ rfl
        · exact k hc H2 W2 hC2 nd (by omega) (bd.mono (by omega))
    · rintro H3 rfl
      refine for_rng (I := fun n H' => n ≤ 2 ∧ Wd p l G H' ∧ H' c = some (.dK (hpK hc))) (fun Qn fin => ?_) ?_
      · refine ⟨_, rfl, t0, _, 0, .str r.1, rfl, rfl, sT W2, rfl, rfl, _, rfl, iteB (fun _ => ?_) (fun _ => ?_)⟩
        · exact fin 0 _ ⟨by omega, W2, hC2⟩
        · refine ⟨_, rfl, p, l, G, 3, rfl, by decide, by decide, W2, fun d H4 d0 d1 e4 => ?_⟩
          obtain ⟨n, rfl⟩ := Int.eq_ofNat_of_zero_le d0
          exact fin n _ ⟨by omega, e4.w, e4.keep _ _ ncp ncl hC2⟩
      · rintro n H4 ⟨n2, W4, hC4⟩
        refine ⟨(n : Int), rfl, by omega, by omega, for_range (lo := 0) (n := n) (fun i σ H' => ∃ (at_ : Int) (hc' : Hl) (o6 o7 : Option V), σ = [some (.ref p), some (.ref t0), some (.ref sa), some (.ref c), some (.int at_), some (.int en), o6, o7] ∧ Wd p l G H' ∧ H' c = some (.dK (hpK hc')) ∧
            (keysH hc').Nodup ∧ hc'.length ≤ hc.length + i ∧ BdH (b + (i : Int)) hc' ∧ 0 ≤ at_ ∧ at_ ≤ b + (i : Int))
          ⟨at0, hc, _, _, rfl, W4, hC4, nd, Nat.le_refl _, bd.mono (by omega), a0, by omega⟩ ?_ ?_⟩
        · rintro i σ H5 hi ⟨at_, hc', o6, o7, rfl, W5, hC5, nd5, l5, bd5, x0, x1⟩
          dsimp only [gName, List.set]
          have ek : (hpK hc').map (fun kv => kV kv.1) = (keysH hc').map V.int := by
            unfold hpK keysH
            rw [List.map_map, List.map_map]
            rfl
          refine ⟨_, rfl, _, rfl, c, hpK hc', rfl, .inl hC5, fun L1 h1 => ?_⟩
          rw [ek]
          have q1 := sameAdd (o := .lst ((keysH hc').map V.int)) h1
          have g1 : (upd H5 L1 (.lst ((keysH hc').map V.int))) L1 = some (.lst ((keysH hc').map V.int)) := upd_same
          refine ⟨_, rfl, by show 2 ≤ sizeLine; decide, fun L2 h2 => ?_⟩
          have q2 := sameAdd (o := .lst [V.int at_, .int 6]) h2
          have g2 : (upd (upd H5 L1 (.lst ((keysH hc').map V.int))) L2 (.lst [V.int at_, .int 6])) L2 = some (.lst [V.int at_, .int 6]) := upd_same
          refine ⟨L1, L2, _, _, rfl, rfl, q2 _ _ g1, g2, ?_, fun L3 h3 => ?_⟩
          · show ((keysH hc').map V.int).length + 2 ≤ sizeLine
            unfold keysH
            rw [List.length_map, List.length_map]
            omega
          have em : (keysH hc').map V.int ++ [V.int at_, .int 6] = (keysH hc' ++ [at_, 6]).map V.int := by rw [List.map_append]; rfl
          rw [em]
          have q3 := sameAdd (o := .lst ((keysH hc' ++ [at_, 6]).map V.int)) h3
          refine ⟨L3, keysH hc' ++ [at_, 6], rfl, SqL.of upd_same, by rw [List.length_append]; show 0 < _ + 2; omega, fun m hm hle => ?_⟩
          have mb : 0 ≤ m ∧ m ≤ b + (i : Int) := by
            rcases List.mem_append.mp hm with hm | hm
            · obtain ⟨z, mz, rfl⟩ := List.mem_map.mp hm
              exact (bd5 z mz).1
            · rcases List.mem_cons.mp hm with rfl | hm
              · exact ⟨x0, x1⟩
              · rw [List.mem_singleton.mp hm]
                omega
          have e6 := W5.still ((q1.trans q2).trans q3)
          have hC6 := ((q1.trans q2).trans q3) _ _ hC5
          generalize upd (upd (upd H5 L1 (.lst ((keysH hc').map V.int))) L2 (.lst [V.int at_, .int 6])) L3 (.lst ((keysH hc' ++ [at_, 6]).map V.int)) = H6 at e6 hC6 ⊢
          refine ⟨_, _, rfl, rfl, _, rfl, p, l, G, 6, rfl, by decide, by decide, e6.w, fun d H7 d0 d1 e7 => ?_⟩
          refine ⟨_, _, rfl, rfl, by show 2 ≤ sizeLine; decide, fun L4 h4 => ?_⟩
          have e8 := e7.w.tmp (o := .lst [V.int (m + 1), .int (1 + d)]) h4
          have hC8 := e8.keep _ _ ncp ncl (e7.keep _ _ ncp ncl hC6)
          refine ⟨p, l, G, L4, _, rfl, e8.w, upd_same, e7.w.np h4, e7.w.nl h4, by show 0 < 2; decide, by show 2 < 1000000; decide, fun x H9 mx e9 => ?_⟩
          obtain ⟨fu, rfl, f0, f1⟩ : ∃ fu : Int, x = .int fu ∧ 0 ≤ fu ∧ fu ≤ b + (i : Int) + 1 := by
            rcases List.mem_cons.mp mx with rfl | mx
            · exact ⟨_, rfl, by omega, by omega⟩
            · exact ⟨_, List.mem_singleton.mp mx, by omega, by omega⟩
          have hC9 := e9.keep _ _ ncp ncl hC8
          have W9 := e9.w
          clear e9 e8 e7 e6 hC8 hC6 q1 q2 q3 g1 g2 h1 h2 h3 h4 hC5 W5
          dsimp only [gName, List.set]
          have stop : ∃ (at2 : Int) (hc'' : Hl) (o6 o7 : Option V), ([some (.ref p), some (.ref t0), some (.ref sa), some (.ref c), some (.int at_), some (.int en), some (.int (0 + (i : Int))), some (.int fu)] : St) = [some (.ref p), some (.ref t0), some (.ref sa), some (.ref c), some (.int at2), some (.int en), o6, o7] ∧ Wd p l G H9 ∧ H9 c = some (.dK (hpK hc'')) ∧
              (keysH hc'').Nodup ∧ hc''.length ≤ hc.length + (i + 1) ∧ BdH (b + ((i + 1 : Nat) : Int)) hc'' ∧ 0 ≤ at2 ∧ at2 ≤ b + ((i + 1 : Nat) : Int) := ⟨at_, hc', _, _, rfl, W9, hC9, nd5, by omega, bd5.mono (by omega), x0, by omega⟩
          have no : ∀ {A : Prop} {B : Prop}, B → if false = true then A else B := fun h => h
          have yes : ∀ {A : Prop} {B : Prop}, A → if true = true then A else B := fun h => h
          refine ⟨_, rfl, _, _, rfl, rfl, _, rfl, iteB (fun g1 => ?_) (fun _ => no stop)⟩
          have g1 := of_decide_eq_true g1
          refine ⟨_, rfl, _, rfl, c, _, rfl, get_h hC9, _, rfl, ?_⟩
          rw [is_h]
          refine iteND (fun g2 => ?_) (fun _ => no stop)
          refine ⟨_, rfl, _, rfl, rfl, _, rfl, iteB (fun g3 => ?_) (fun _ => stop)⟩
          refine ⟨_, rfl, _, rfl, _, rfl, c, _, rfl, put_h hC9 (by omega), _, rfl, ?_⟩
          have pl := putH_len hc' at_ fu
          exact ⟨fu, putH hc' at_ fu, _, _, rfl, W9.own ncp ncl gC, upd_same, putH_nodup nd5, by omega, putH_bd (bd5.mono (by omega)) x0 (by omega) f0 (by omega), f0, by omega⟩
        · rintro σ H5 ⟨at_, hc', o6, o7, rfl, W5, hC5, nd5, l5, bd5, x0, x1⟩
          dsimp only
          have stop : Q .non H5 := k hc' H5 W5 hC5 nd5 (by omega) (bd5.mono (by omega))
          have no : ∀ {A : Prop} {B : Prop}, B → if false = true then A else B := fun h => h
          have yes : ∀ {A : Prop} {B : Prop}, A → if true = true then A else B := fun h => h
          refine ⟨_, rfl, _, _, rfl, rfl, _, rfl, iteB (fun g1 => ?_) (fun _ => no stop)⟩
          have g1 := of_decide_eq_true g1
          refine ⟨_, rfl, _, rfl, c, _, rfl, get_h hC5, _, rfl, ?_⟩
          rw [is_h]
          refine iteND (fun g2 => ?_) (fun _ => stop)
          refine ⟨_, rfl, _, rfl, _, rfl, c, _, rfl, put_h hC5 (by omega), ?_⟩
          have pl := putH_len hc' at_ en
          exact k (putH hc' at_ en) _ (W5.own ncp ncl gC) upd_same (putH_nodup nd5) (by omega) (putH_bd (bd5.mono (by omega)) x0 (by omega) e0 (by omega))
end
end L2.Hx

/-! Lost cells and joined clauses: stores and heaps drawn. -/
namespace L2.Hx
open PySem PySem.Spec PyProof.Rows
def PairN (B : Int) (ks : List Key) (n : Nat) (d : PyData) : Prop := ∃ (key : Key) (v : Int), ks[n]? = some key ∧ d = .tuple [keyD key, .int v] ∧ 0 ≤ v ∧ v ≤ B
theorem pairs_of_da {K : PySem.W.Frag} {G : Hp} {B : Int} : ∀ {ks : List Key} {xs : List V} {ds : List PyData}, DaAll K G xs ds → ds.length = ks.length → (∀ n d, ds[n]? = some d → PairN B ks n d) →
    ∃ (ts : List Addr) (kvs : List (Key × V)), xs = ts.map V.ref ∧ Paired (fun t kv => SqT K G t [kV kv.1, kv.2]) ts kvs ∧ kvs.map (·.1) = ks ∧ ∀ kv ∈ kvs, ∃ v : Int, kv.2 = .int v ∧ 0 ≤ v ∧ v ≤ B
  | [], _, _, .nil, _, _ => ⟨[], [], rfl, .nil, rfl, fun kv m => absurd m List.not_mem_nil⟩
  | [], _, _, .cons _ _, l, _ => absurd l (by simp)
  | _ :: _, _, _, .nil, l, _ => absurd l (by simp)
  | key :: ks, _, _, .cons (v := x) (d := d) h t, l, f => by
    obtain ⟨key2, v, e, rfl, v0, v1⟩ := f 0 d rfl
    cases e
    obtain ⟨ts, kvs, rfl, pr, ek, iv⟩ := pairs_of_da (ks := ks) (B := B) t (by simpa using l) fun n d m => by
      obtain ⟨k3, v3, e3, r⟩ := f (n + 1) d m
      exact ⟨k3, v3, e3, r⟩
    obtain ⟨a, ys, rfl, aT, aA⟩ := h.tupI
    cases aA with
    | cons h1 r1 =>
      cases r1 with
      | cons h2 r2 =>
        cases r2
        cases h2
        have e1 : ∀ y, Da K G y (keyD key) → y = kV key := fun y q => by
          cases key with
          | inl i =>
            cases q
            rfl
          | inr z =>
            cases q
            rfl
        rw [e1 _ h1] at aT
        refine ⟨a :: ts, (key, .int v) :: kvs, rfl, .cons aT pr, by rw [List.map_cons, ek], fun kv m => ?_⟩
        rcases List.mem_cons.mp m with rfl | m
        · exact ⟨v, rfl, v0, v1⟩
        · exact iv kv m
theorem st_of {B : Int} : ∀ {ns : List Str} {kvs : List (Key × V)}, kvs.map (·.1) = ns.map (fun n => (.inr n : Key)) → (∀ kv ∈ kvs, ∃ v : Int, kv.2 = .int v ∧ 0 ≤ v ∧ v ≤ B) → ∃ st : Sl, kvs = stK st ∧ st.map (·.1) = ns ∧ ∀ c ∈ st, 0 ≤ c.2 ∧ c.2 ≤ B
  | [], [], _, _ => ⟨[], rfl, rfl, fun c m => absurd m List.not_mem_nil⟩
  | [], _ :: _, e, _ => by cases e
  | _ :: _, [], e, _ => by cases e
  | n :: ns, kv :: kvs, e, f => by
    injection e with e1 e2
    obtain ⟨st, rfl, en, b⟩ := st_of (B := B) e2 fun kv m => f kv (List.mem_cons_of_mem _ m)
    obtain ⟨v, ev, v0, v1⟩ := f kv List.mem_cons_self
    obtain ⟨k1, k2⟩ := kv
    have e1 : k1 = .inr n := e1
    have ev : k2 = .int v := ev
    subst e1 ev
    refine ⟨(n, v) :: st, rfl, by rw [List.map_cons, en], fun c m => ?_⟩
    rcases List.mem_cons.mp m with rfl | m
    · exact ⟨v0, v1⟩
    · exact b c m
theorem hl_of {B : Int} : ∀ {ns : List Int} {kvs : List (Key × V)}, kvs.map (·.1) = ns.map (fun n => (.inl n : Key)) → (∀ kv ∈ kvs, ∃ v : Int, kv.2 = .int v ∧ 0 ≤ v ∧ v ≤ B) → ∃ hp : Hl, kvs = hpK hp ∧ keysH hp = ns ∧ ∀ c ∈ hp, 0 ≤ c.2 ∧ c.2 ≤ B
  | [], [], _, _ => ⟨[], rfl, rfl, fun c m => absurd m List.not_mem_nil⟩
  | [], _ :: _, e, _ => by cases e
  | _ :: _, [], e, _ => by cases e
  | n :: ns, kv :: kvs, e, f => by
    injection e with e1 e2
    obtain ⟨hp, rfl, en, b⟩ := hl_of (B := B) e2 fun kv m => f kv (List.mem_cons_of_mem _ m)
    obtain ⟨v, ev, v0, v1⟩ := f kv List.mem_cons_self
    obtain ⟨k1, k2⟩ := kv
    have e1 : k1 = .inl n := e1
    have ev : k2 = .int v := ev
    subst e1 ev
    refine ⟨(n, v) :: hp, rfl, by show n :: keysH hp = _; rw [en], fun c m => ?_⟩
    rcases List.mem_cons.mp m with rfl | m
    · exact ⟨v0, v1⟩
    · exact b c m
/-- a pair of a key at hand and a drawn number -/
theorem td_pairN {K : PySem.W.Frag} {p l : Addr} {σ : St} {G : Hp} {i j n : Nat} {tl : TE} {B : Int} {ks : List Key} {key : Key} (hj : σ[j]? = some (some (kV key))) (hi : σ[i]? = some (some (.ref p))) (hn : ks[n]? = some key) (hl : TD K p l σ G tl (LsP (IntD B))) :
    TD K p l σ G (tTup (tCons (tVar j) (tCons (tCall spPick [] E0 (tCons (tVar i) (tCons tl tNil))) tNil))) (PairN B ks n) := by
  have hk : ∀ G, Da K G (kV key) (keyD key) := fun G => by
    cases key with
    | inl i => exact .int i
    | inr z => exact .str z
  refine TD.imp (td_tupP (Φ := fun ds => ∃ d r, ds = d :: r ∧ d = keyD key ∧ ∃ d2 r2, r = d2 :: r2 ∧ IntD B d2 ∧ AllF (fun _ => True) 0 r2) (tds_consP (td_var hj (hk _) rfl) (tds_consP (td_pick hl hi) tds_nilF)) fun ds f => ?_) fun d f => ?_
  · obtain ⟨d, r, rfl, _, d2, r2, rfl, _, z, _⟩ := f
    rw [List.length_cons, List.length_cons, z]
    show 2 ≤ sizeLine
    decide
  · obtain ⟨ds, rfl, d, r, rfl, rfl, d2, r2, rfl, ⟨v, rfl, v0, v1⟩, z, _⟩ := f
    rw [List.length_eq_zero_iff.mp z]
    exact ⟨key, v, hn, rfl, v0, v1⟩
theorem td_small {K : PySem.W.Frag} {p l : Addr} {σ : St} {G : Hp} {i B : Int} (h0 : 0 ≤ i := by decide) (h1 : i ≤ B := by decide) : TD K p l σ G (tC (.int i)) (IntD B) := td_intF h0 h1
def pairAt (H : Hp) (x : V) : Int × Int := match x with
  | .ref t => match H t with
    | some (.tup [.int i, .int j]) => (i, j)
    | _ => (0, 0)
  | _ => (0, 0)
theorem zip_hp {H : Hp} : ∀ {ts : List Addr} {hc : Hl}, Paired (fun (t : Addr) (q : Key × V) => H t = some (.tup [kV q.1, q.2])) ts (hpK hc) → ∀ q ∈ ts.zip hc, H q.1 = some (.tup [.int q.2.1, .int q.2.2])
  | [], _, _, q, m => absurd m List.not_mem_nil
  | _ :: _, [], h, _, _ => by cases h
  | t :: ts, c :: hc, h, q, m => by
    have h : Paired (fun (t : Addr) (q : Key × V) => H t = some (.tup [kV q.1, q.2])) (t :: ts) (((.inl c.1 : Key), V.int c.2) :: hpK hc) := h
    cases h with
    | cons h r =>
      rcases List.mem_cons.mp m with rfl | m
      · exact h
      · exact zip_hp r q m
/-- pairs sorted -/
theorem sorted_heap {H : Hp} {ts : List Addr} {hc : Hl} {ys : List V} (pr : Paired (fun (t : Addr) (q : Key × V) => H t = some (.tup [kV q.1, q.2])) ts (hpK hc)) (pm : ys.Perm (ts.map V.ref)) (sr : SrtO.Srtd (ltP (pairAt H)) ys) :
    ∃ (ps : List Addr) (hp : Hl), ys = ps.map V.ref ∧ Paired (fun (p : Addr) (kv : Key × V) => H p = some (.tup [kV kv.1, kv.2])) ps (hpK hp) ∧ hp.Perm hc ∧ SrtH hp := by
  have hl : ts.length = hc.length := by
    have := paired_len pr
    unfold hpK at this
    rw [List.length_map] at this
    exact this
  have e1 : (ts.zip hc).map (·.1) = ts := List.map_fst_zip (Nat.le_of_eq hl)
  have e2 : (ts.zip hc).map (·.2) = hc := List.map_snd_zip (Nat.le_of_eq hl.symm)
  have e3 : ts.map V.ref = (ts.zip hc).map fun q => V.ref q.1 := by
    conv => lhs; rw [← e1]
    rw [List.map_map]
    rfl
  obtain ⟨M, m1, m2⟩ := perm_map_inv pm _ e3
  have at_ : ∀ q ∈ M, H q.1 = some (.tup [.int q.2.1, .int q.2.2]) := fun q m => zip_hp pr q (m2.mem_iff.mp m)
  have pa : ∀ q ∈ M, pairAt H (.ref q.1) = q.2 := fun q m => by
    show (match H q.1 with | some (.tup [.int i, .int j]) => (i, j) | _ => (0, 0)) = q.2
    rw [at_ q m]
  refine ⟨M.map (·.1), M.map (·.2), by rw [m1, List.map_map]; rfl, ?_, ?_, ?_⟩
  · unfold hpK
    rw [List.map_map]
    exact paired_map fun q m => at_ q m
  · have := m2.map (·.2)
    rw [e2] at this
    exact this
  · rw [m1] at sr
    have sr2 := List.pairwise_map.mp sr
    refine List.pairwise_map.mpr (sr2.imp_of_mem fun {a b} ma mb q => ?_)
    have q : SrtO.lexB (pairAt H (.ref b.1)) (pairAt H (.ref a.1)) = false := q
    rw [pa a ma, pa b mb] at q
    exact q
theorem pairAt_ok {H : Hp} {ts : List Addr} {hc : Hl} (pr : Paired (fun (t : Addr) (q : Key × V) => H t = some (.tup [kV q.1, q.2])) ts (hpK hc)) : ∀ x ∈ ts.map V.ref, ∃ t, x = V.ref t ∧ H t = some (.tup [.int (pairAt H x).1, .int (pairAt H x).2]) := fun x m => by
  obtain ⟨t, mt, rfl⟩ := List.mem_map.mp m
  obtain ⟨i, hi⟩ := List.mem_iff_getElem?.mp mt
  have hl : ts.length = hc.length := by
    have := paired_len pr
    unfold hpK at this
    rw [List.length_map] at this
    exact this
  have lt : i < hc.length := by
    have := (List.getElem?_eq_some_iff.mp hi).1
    omega
  have mz : (t, hc[i]) ∈ ts.zip hc := List.mem_iff_getElem?.mpr ⟨i, List.getElem?_zip_eq_some.mpr ⟨hi, List.getElem?_eq_getElem lt⟩⟩
  have e := zip_hp pr _ mz
  refine ⟨t, rfl, ?_⟩
  have pa : pairAt H (.ref t) = hc[i] := by
    show (match H t with | some (.tup [.int i, .int j]) => (i, j) | _ => (0, 0)) = _
    rw [e]
  rw [pa]
  exact e
theorem drop_hp {hc : Hl} {k : Int} : dropK (hpK hc) (.inl k) = hpK (leftH k hc) := by
  unfold dropK hpK leftH
  rw [List.filter_map]
  congr 1
  refine List.filter_congr fun c _ => ?_
  show decide ((Sum.inl c.1 : Key) ≠ .inl k) = !decide (c.1 = k)
  by_cases e : c.1 = k
  · rw [e]
    simp
  · simp [e]
theorem left_nodup {hc : Hl} {k : Int} (nd : (keysH hc).Nodup) : (keysH (leftH k hc)).Nodup := nd.sublist (List.Sublist.map _ List.filter_sublist)
theorem left_bd {hc : Hl} {k b : Int} (h : BdH b hc) : BdH b (leftH k hc) := fun c m => h c (List.mem_filter.mp m).1
theorem left_len (hc : Hl) (k : Int) : (leftH k hc).length ≤ hc.length := List.length_filter_le _ _
theorem da_get {K : PySem.W.Frag} {G : Hp} : ∀ {xs : List V} {ds : List PyData} {i : Nat} {x : V}, DaAll K G xs ds → xs[i]? = some x → ∃ d, ds[i]? = some d ∧ Da K G x d
  | _, _, _, _, .nil, h => by cases h
  | _, _, 0, _, .cons h _, e => by
    cases e
    exact ⟨_, rfl, h⟩
  | _, _, i + 1, _, .cons _ t, e => by
    obtain ⟨d, e1, h⟩ := da_get (i := i) t e
    exact ⟨d, e1, h⟩
theorem fine_of {hp : Hl} {b : Int} (nd : (keysH hp).Nodup) (l : hp.length ≤ 1000) (bd : BdH b hp) (hb : b ≤ 2 ^ 90) : HpOk hp ∧ HpSm hp := by
  have e2 : ((2 : Int) ^ 90) < ((2 ^ 100 : Nat) : Int) := by decide +kernel
  have sm : ∀ n : Int, 0 ≤ n → n ≤ b → Sm n := fun n h0 h1 => sm_of (k := 100) (Int.ofNat_lt.mp (by rw [Int.natAbs_of_nonneg h0]; omega))
  exact ⟨⟨nd, by omega⟩, by omega, fun c m => ⟨sm _ (bd c m).1.1 (bd c m).1.2, sm _ (bd c m).2.1 (bd c m).2.2⟩⟩
theorem TD.asgTupP {K : PySem.W.Frag} {p l : Addr} {σ : St} {G H : Hp} {ta : TE} {φ : PyData → Prop} {D : Ends} {i : Nat} (h : TD K p l σ G ta φ) (W : Wd p l G H)
    (k : ∀ v d G2 H2, Ext p l G H G2 H2 → Da K G2 v d → φ d → ∃ L xs, v = .ref L ∧ SqL K H2 L xs ∧ ∀ h o, PlO o → H2 h = none → D.nx (σ.set i (some (.ref h))) (upd H2 h (.frz o (.tup xs)))) :
    tAsg (tCB (fun xs H Q => ∃ p ys, xs = [.ref p] ∧ SqL K H p ys ∧ ∀ l o, PlO o → H l = none → Q (.ref l) (upd H l (.frz o (.tup ys)))) (tCons ta tNil)) (gName i) D σ H := h G H _ W (Same.refl G) fun v d G2 H2 e da f => by
  obtain ⟨L, xs, rfl, hS, k2⟩ := k v d G2 H2 e da f
  exact ⟨L, xs, rfl, hS, k2⟩
def spWorld (K : PySem.W.Frag) : Sp := fun vs H Q _ => ∃ (p l : Addr) (G : Hp) (n : Addr) (v : V) (ns : List Str) (lk pt : List Row), vs = [.ref p, .ref n, v] ∧ Wd p l G H ∧ G n = some (.lst (ns.map V.str)) ∧ ns.Nodup ∧ ns.length ≤ 100 ∧ Da K G v (lclauseD lk pt) ∧ pt.length ≤ 10 ∧
  (∀ r ∈ pt, (r.2.1 = "nil" ∨ r.2.1 ∈ ns) ∧ (r.2.2 = "nil" ∨ r.2.2 ∈ ns)) ∧
  ∀ (q sa ha : Addr) (st : Sl) (hp : Hl) (G2 H2 : Hp), Wd p l G2 H2 → Same G G2 → SqT K H2 q [.ref sa, .ref ha] → PrT K G2 sa (stK st) → st.map (·.1) = ns → (∃ ps : List Addr, PlT G2 ha (ps.map V.ref) ∧ Paired (fun (t : Addr) (kv : Key × V) => G2 t = some (.tup [kV kv.1, kv.2])) ps (hpK hp)) → HpOk hp → HpSm hp → SrtH hp → Q (.ref q) H2
section
variable {P : Program} {w : World} {K : PySem.W.Frag} {mg : Str → Option Value} {base : Heap}
theorem D_l_world (T : Txt K mg) : Df P w K mg base 4 "_law_world" ["deck", "names", "clause"] (spWorld K) := by
  have D_l_draw := D_draw (P := P) (w := w) (base := base) T
  have D_l_pick := D_pick (P := P) (w := w) (base := base) T
  have D_l_laid_part := D_l_laid_part (P := P) (w := w) (base := base) T
  obtain ⟨f, fd, S⟩ := T.d_l_world
  refine Df.mk' (k := 3) S sc_l_world (fun vs H Q E h => ?_) (fun cdv A outer s H vs Q E hgd hr h => ?_)
  · obtain ⟨p, l, G, n, v, ns, lk, pt, rfl, _⟩ := h
    rfl
  · obtain ⟨p, l, G, n, v, ns, lk, pt, rfl, W, gn, nnd, nl, da, lpt, kn, k⟩ := h
    have hu := hu_of hr
    have big : (2000 : Nat) ≤ sizeLine := by decide
    refine ⟨_, (pss_cons (ps_set (i := 3) sc_l_world.nd rfl (.inl rfl) (pe_callTy call_tuple_ofP (by rfl) T.b_tuple (by decide +kernel) (pa_cons (pe_lc (own := [("name", 4)]) (g := gName 4) (tt := tYes) rfl sc_l_world.nd (pi_list (pv 1)) (blkOk_by (own := [("name", 4)]) (N := ["deck", "names", "clause", "store", "name", "cells", "part", "way"]) (sc := defScope s_l_world) (by decide +kernel)) (fun _ _ _ _ _ => pg_name (i := 4) sc_l_world.nd rfl (.inl rfl)) (fun _ _ _ _ _ => pts_nil) (fun _ _ _ _ _ => (pe_tup (pa_cons (pv 4) (pa_cons (pe_d D_l_pick hgd hr (pa_cons (pv 0) (pa_cons (pe_lst (pa_cons pe_int (pa_cons pe_int (pa_cons pe_int (pa_cons pe_int (pa_cons pe_int (pa_cons pe_int pa_nil))))))) pa_nil))) pa_nil))))) pa_nil)))
      (pss_cons (ps_set (i := 5) sc_l_world.nd rfl (.inl rfl) pe_dnewK)
      (pss_cons (ps_for PassesOwn.never rfl (pi_tup (pe_ix ix_tup (pv 2) pe_int (fun _ _ => rfl))) (pg_name (i := 6) sc_l_world.nd rfl (.inl rfl))
      (pss_one (ps_expr (pe_d D_l_laid_part hgd hr (pa_cons (pv 0) (pa_cons (pv 6) (pa_cons (pv 3) (pa_cons (pv 5) pa_nil))))))))
      (pss_cons (ps_set (i := 7) sc_l_world.nd rfl (.inl rfl) (pe_d D_l_draw hgd hr (pa_cons (pv 0) (pa_cons pe_int pa_nil))))
      (pss_cons (ps_if (pt_cmpR op_eq (pv 7) pe_int (nomark _)) (pss_one (ps_dput hu (pv 5) (pe_op op_add pe_int (pe_d D_l_draw hgd hr (pa_cons (pv 0) (pa_cons pe_int pa_nil)))) (pe_d D_l_draw hgd hr (pa_cons (pv 0) (pa_cons pe_int pa_nil))) rfl)) pss_nil)
      (pss_cons (ps_if (PW.pt (pw_and (pt_cmpR op_eq (pv 7) pe_int (nomark _)) (pw_and1 (pt_cmpR (op_neDct hr.units0) (pv 5) pe_dnewK (nomark _))))) (pss_one (ps_expr (pe_dpop1 (pv 5) (pe_d D_l_pick hgd hr (pa_cons (pv 0) (pa_cons (pe_callB cr_sortedI (by rfl) T.b_sorted (by decide +kernel) (pa_cons (pe_callTy (call_listD rfl) (by rfl) T.b_list (by decide +kernel) (pa_cons (pv 5) pa_nil)) pa_nil)) pa_nil))) ⟨by rfl, by rfl, by rfl, by rfl⟩))) pss_nil)
      (pss_one (ps_ret (pe_tup (pa_cons (pv 3) (pa_cons (pe_callTy call_tuple_ofP (by rfl) T.b_tuple (by decide +kernel) (pa_cons (pe_callB cr_sortedPO (by rfl) T.b_sorted (by decide +kernel) (pa_cons (LiI.pe_listItems rfl (pv 5) (by rfl) T.b_list rfl) pa_nil)) pa_nil)) pa_nil))))))))))), ?_⟩
    refine TD.asgTupP (K := K) (p := p) (l := l) (G := G)
      (φ := fun d => ∃ ds, d = .list ds ∧ ds.length = (ns.map V.str).length ∧ ∀ m e, ds[m]? = some e → PairN 5 (ns.map fun n => (.inr n : Key)) m e) ?h1 W (fun u d G1 H1 e1 da1 f1 => ?_)
    case h1 =>
      refine td_lcl (φ := PairN 5 (ns.map fun n => (.inr n : Key))) rfl (SqL.of gn) (by rw [List.length_map]; omega) fun m x hx => ?_
      rw [List.getElem?_map] at hx
      obtain ⟨z, hz, rfl⟩ := Option.map_eq_some_iff.mp hx
      exact td_pairN (key := .inr z) rfl rfl (by rw [List.getElem?_map, hz]; rfl) (td_lstF (tds_consF td_small (tds_consF td_small (tds_consF td_small (tds_consF td_small (tds_consF td_small (tds_consF td_small tds_nilF)))))))
    · obtain ⟨ds, rfl, ld, fd2⟩ := f1
      cases da1 with
      | @lst L xs _ gL aL =>
        obtain ⟨ts, kvs, rfl, pr, ek, iv⟩ := pairs_of_da (B := 5) (ks := ns.map fun n => (.inr n : Key)) aL (by rw [ld, List.length_map, List.length_map]) fd2
        obtain ⟨st, rfl, en, sb⟩ := st_of ek iv
        refine ⟨L, _, rfl, SqL.of (e1.w.same _ _ gL), fun sa o po hsa => ?_⟩
        have e2 := e1.w.put (o := .frz o (.tup (ts.map V.ref))) hsa
        have pS : PrT K (upd G1 sa (.frz o (.tup (ts.map V.ref)))) sa (stK st) := ⟨ts, ⟨o, po, upd_same⟩, paired_mono (fun _ _ _ q => sameT e2.sub q) pr⟩
        have W2 := e2.w
        have s2 := e1.sub.trans e2.sub
        clear gL aL fd2 pr hsa e2 e1 ek iv ld
        generalize upd G1 sa (.frz o (.tup (ts.map V.ref))) = G2 at pS W2 s2
        generalize upd H1 sa (.frz o (.tup (ts.map V.ref))) = H2 at W2 ⊢
        dsimp only [gName, List.set]
        refine fun c hc => ?_
        dsimp only [gName, List.set]
        have W3 := (W2.tmp (o := .dK []) hc).w
        have hC3 : (upd H2 c (.dK [])) c = some (.dK (hpK [])) := upd_same
        have ncp := W2.np hc
        have ncl := W2.nl hc
        have gC : G2 c = none := W2.same.free hc
        clear W2 hc
        generalize upd H2 c (.dK []) = H3 at W3 hC3 ⊢
        have oks : StOk st := ⟨by rw [en]; exact nnd, by
          have := congrArg List.length en
          rw [List.length_map] at this
          omega⟩
        obtain ⟨tc, xs, rfl, tcT, aA⟩ := (show Da K G v (.tuple [.tuple (lk.map lrowD), .tuple (pt.map lrowD)]) from da).tupI
        cases aA with
        | @cons v1 _ _ _ a1 r1 =>
          cases r1 with
          | cons a2 r2 =>
            cases r2
            obtain ⟨tp, ys, rfl, tpT, apA⟩ := a2.tupI
            refine ⟨_, rfl, tc, _, 1, .ref tp, rfl, rfl, sameT (s2.trans W3.same) tcT, rfl, tp, rfl, ⟨_, sameT (s2.trans W3.same) tpT⟩, for_tup (K := K) (a := tp) (xs := ys) (fun i σ H' => ∃ (hc' : Hl) (o4 o6 o7 : Option V), σ = [some (.ref p), some (.ref n), some (.ref tc), some (.ref sa), o4, some (.ref c), o6, o7] ∧ Wd p l G2 H' ∧ H' c = some (.dK (hpK hc')) ∧
                (keysH hc').Nodup ∧ hc'.length ≤ 3 * i ∧ BdH (6 + 3 * (i : Int)) hc')
              ⟨[], _, _, _, rfl, W3, hC3, List.nodup_nil, Nat.zero_le _, fun c m => absurd m List.not_mem_nil⟩ (fun i σ H' _ ⟨_, _, _, _, _, w, _⟩ => sameT (s2.trans w.same) tpT) ?_ ?_⟩
            · rintro i x σ H4 hx ⟨hc', o4, o6, o7, rfl, W4, hC4, nd4, l4, bd4⟩
              obtain ⟨d, hd, dx⟩ := apA.get hx
              rw [List.getElem?_map] at hd
              obtain ⟨r, hr2, rfl⟩ := Option.map_eq_some_iff.mp hd
              have li := (List.getElem?_eq_some_iff.mp hr2).1
              obtain ⟨k1, k2⟩ := kn r (List.mem_of_getElem? hr2)
              dsimp only [gName, List.set]
              refine ⟨_, rfl, _, rfl, _, rfl, _, rfl, p, l, G2, x, sa, c, r, st, hc', 6 + 3 * (i : Int), rfl, W4, dx.mono s2, pS, oks, kn_of (by rw [en]; exact k1), kn_of (by rw [en]; exact k2), hC4, ncp, ncl, gC, nd4, by omega, bd4, by omega, by omega, fun z m => ⟨(sb z m).1, by have := (sb z m).2; omega⟩, fun hc2 H5 W5 hC5 nd5 l5 bd5 => ?_⟩
              exact ⟨hc2, _, _, _, rfl, W5, hC5, nd5, by omega, bd5.mono (by omega)⟩
            · rintro σ H4 ⟨hc', o4, o6, o7, rfl, W4, hC4, nd4, l4, bd4⟩
              have ly : ys.length = pt.length := by rw [apA.length, List.length_map]
              rw [ly] at l4 bd4
              have bd4 : BdH 40 hc' := bd4.mono (by omega)
              dsimp only [gName, List.set]
              refine ⟨_, rfl, p, l, G2, 6, rfl, by decide, by decide, W4, fun way H5 w0 w1 e5 => ?_⟩
              have hC5 := e5.keep _ _ ncp ncl hC4
              have W5 := e5.w
              clear e5 W4 hC4
              dsimp only [gName, List.set]
              refine' behindI (I := fun H' => ∃ hc2 : Hl, Wd p l G2 H' ∧ H' c = some (.dK (hpK hc2)) ∧ (keysH hc2).Nodup ∧ hc2.length ≤ 40 ∧ BdH 40 hc2) (fun fin => ?_) ?_
              rotate_left 1
              · refine ⟨_, rfl, rfl, _, rfl, iteB (fun _ => ?_) (fun _ => ?_)⟩
                · refine ⟨_, rfl, p, l, G2, 7, rfl, by decide, by decide, W5, fun d H6 d0 d1 e6 => ?_⟩
                  refine ⟨_, rfl, _, rfl, p, l, G2, 6, rfl, by decide, by decide, e6.w, fun d2 H7 d20 d21 e7 => ?_⟩
                  have hC7 := e7.keep _ _ ncp ncl (e6.keep _ _ ncp ncl hC5)
                  have pl := putH_len hc' (1 + d2) d
                  refine ⟨_, _, rfl, rfl, c, _, rfl, put_h hC7 (by omega), ?_⟩
                  exact fin _ ⟨putH hc' (1 + d2) d, e7.w.own ncp ncl gC, upd_same, putH_nodup nd4, by omega, putH_bd bd4 (by omega) (by omega) (by omega) (by omega)⟩
                · exact fin _ ⟨hc', W5, hC5, nd4, by omega, bd4⟩
              · rintro H6 ⟨hc2, W6, hC6, nd6, l6, bd6⟩
                refine' behindI (I := fun H' => ∃ hc2 : Hl, Wd p l G2 H' ∧ H' c = some (.dK (hpK hc2)) ∧ (keysH hc2).Nodup ∧ hc2.length ≤ 40 ∧ BdH 40 hc2) (fun fin => ?_) ?_
                rotate_left 1
                · have stop := fun (H' : Hp) (w : Wd p l G2 H') (h : H' c = some (.dK (hpK hc2))) => fin H' ⟨hc2, w, h, nd6, l6, bd6⟩
                  have no : ∀ {A : Prop} {B : Prop}, B → if false = true then A else B := fun h => h
                  refine ⟨_, rfl, rfl, _, rfl, iteB (fun _ => ?_) (fun _ => no (stop _ W6 hC6))⟩
                  refine ⟨_, rfl, fun D hD => ?_⟩
                  have W7 := (W6.tmp (o := .dK []) hD).w
                  have hC7 := sameAdd (o := .dK []) hD _ _ hC6
                  refine ⟨c, D, hpK hc2, rfl, rfl, hC7, upd_same, _, rfl, iteB (fun ne => ?_) (fun _ => stop _ W7 hC7)⟩
                  generalize upd H6 D (.dK []) = H7 at W7 hC7 ⊢
                  have pos : 0 < hc2.length := by
                    cases hc2 with
                    | nil => cases ne
                    | cons c r => exact Nat.succ_pos _
                  have ek : (hpK hc2).map (fun kv => kV kv.1) = (keysH hc2).map V.int := by
                    unfold hpK keysH
                    rw [List.map_map, List.map_map]
                    rfl
                  have lk2 : (keysH hc2).length = hc2.length := List.length_map ..
                  refine ⟨_, rfl, c, rfl, .inl ⟨_, .inl hC7⟩, _, rfl, _, rfl, c, hpK hc2, rfl, .inl hC7, fun L1 h1 => ?_⟩
                  rw [ek]
                  have q1 := sameAdd (o := .lst ((keysH hc2).map V.int)) h1
                  refine ⟨L1, keysH hc2, rfl, SqL.of upd_same, fun ns' L2 pm rise h2 => ?_⟩
                  have q2 := q1.trans (sameAdd (o := .lst (ns'.map V.int)) h2)
                  have e8 := W7.still q2
                  have hC8 := q2 _ _ hC7
                  have lp : ns'.length = hc2.length := by rw [pm.length_eq, lk2]
                  refine ⟨p, l, G2, L2, ns'.map V.int, rfl, e8.w, upd_same, (W7.still q1).w.np h2, (W7.still q1).w.nl h2, by rw [List.length_map]; omega, by rw [List.length_map]; omega, fun x H9 mx e9 => ?_⟩
                  obtain ⟨kk, mk, rfl⟩ := List.mem_map.mp mx
                  have mk2 := pm.mem_iff.mp mk
                  have hC9 := e9.keep _ _ ncp ncl hC8
                  refine ⟨hpK hc2, .inl kk, .int (mapH hc2 kk), hC9, rfl, by rw [valV_hp, getH_in mk2]; rfl, ?_⟩
                  have := left_len hc2 kk
                  exact fin _ ⟨leftH kk hc2, e9.w.own ncp ncl gC, by rw [upd_same, drop_hp], left_nodup nd6, by omega, left_bd bd6⟩
                · rintro H7 ⟨hc3, W7, hC7, nd7, l7, bd7⟩
                  dsimp only
                  refine ⟨_, rfl, _, rfl, c, hpK hc3, rfl, hC7, fun H8 z ts q78 hz hts nz z8 pr => ?_⟩
                  refine ⟨z, ts.map V.ref, pairAt H8, rfl, SqL.of z8, pairAt_ok pr, fun ys2 so srt stb hso => ?_⟩
                  have q78 : Same H7 H8 := q78
                  have s9 := sameAdd (o := .lst ys2) hso
                  refine ⟨so, ys2, rfl, SqL.of upd_same, fun ha o2 po2 hha => ?_⟩
                  have s10 := sameAdd (o := .frz o2 (.tup ys2)) hha
                  refine ⟨by show 2 ≤ sizeLine; decide, fun q hq => ?_⟩
                  have s11 := sameAdd (o := .tup [V.ref sa, .ref ha]) hq
                  have q711 := ((q78.trans s9).trans s10).trans s11
                  obtain ⟨G12, e12, g12⟩ := W7.grow q711
                  obtain ⟨ps, hp, rfl, pr2, pm2, sr2⟩ := sorted_heap pr stb.perm srt
                  have lp := pm2.length_eq
                  have ndp : (keysH hp).Nodup := (show (keysH hp).Perm (keysH hc3) from pm2.map fun c : Int × Int => c.1).nodup_iff.mpr nd7
                  obtain ⟨f1, f2⟩ := fine_of ndp (by omega) (fun x m => bd7 x (pm2.mem_iff.mp m)) (by decide +kernel)
                  refine k q sa ha st hp G12 _ e12.w (s2.trans e12.sub) (SqT.of upd_same) (pS.same e12.sub) en ⟨ps, ⟨o2, po2, ?_⟩, ?_⟩ f1 f2 sr2
                  · rw [g12 _ (Same.none (q78.trans s9) hha)]
                    exact s11 _ _ upd_same
                  · refine paired_mono (fun t mt kv ht => ?_) pr2
                    have mt2 : t ∈ ts := by
                      obtain ⟨t2, m2, e2⟩ := List.mem_map.mp (stb.perm.mem_iff.mp (List.mem_map_of_mem (f := V.ref) mt))
                      cases e2
                      exact m2
                    rw [g12 _ (hts t mt2)]
                    exact s11 _ _ (s10 _ _ (s9 _ _ ht))
end
end L2.Hx

/-! Lost cells and joined clauses: what is due, heaps, names of addresses. -/
namespace L2.Hx
open PySem PySem.Spec PyProof.Rows
def spDue (K : PySem.W.Frag) : Sp := fun vs H Q _ => ∃ s h st hp, vs = [.ref s, .ref h] ∧ PrT K H s (stK st) ∧ PrT K H h (hpK hp) ∧ StOk st ∧ HpOk hp ∧ ∀ (l : Addr) (H' : Hp), Same H H' → H l = none → H' l = some (.tup ((lostL st hp).map V.int)) → Q (.ref l) H'
theorem cut_sub (ns : List Int) (lo hi : Option Int) : ∃ ms : List Int, cutV (ns.map V.int) lo hi = ms.map V.int ∧ ms.Sublist ns := by
  refine ⟨(ns.drop (HT.sIx (ns.map V.int).length 0 lo)).take (HT.sIx (ns.map V.int).length (ns.map V.int).length hi - HT.sIx (ns.map V.int).length 0 lo), ?_, (List.take_sublist _ _).trans (List.drop_sublist _ _)⟩
  unfold cutV
  rw [List.map_take, List.map_drop]
theorem da_ints {K : PySem.W.Frag} {G : Hp} : ∀ ns : List Int, DaAll K G (ns.map V.int) (ns.map PyData.int)
  | [] => .nil
  | n :: ns => .cons (.int n) (da_ints ns)
/-- a list at hand and numbers written behind it -/
theorem td_catN {K : PySem.W.Frag} {p l : Addr} {σ : St} {G : Hp} {j : Nat} {a : Addr} {ns : List Int} {tr : TA} {m : Nat} {B : Int} (hj : σ[j]? = some (some (.ref a))) (ga : G a = some (.lst (ns.map V.int))) (hn : ∀ n ∈ ns, 0 ≤ n ∧ n ≤ B) (hl : ns.length + (m + 1) < 10000)
    (hr : TDs K p l σ G tr (AllF (IntD B) (m + 1))) : TD K p l σ G (tOp rCat (tVar j) (tLst tr)) (LsP (IntD B)) := fun G1 H Q W s k =>
  ⟨_, hj, hr G1 H _ W s fun vs ds G2 H2 e da f => by
    have big : (10000 : Nat) ≤ sizeLine := by decide
    have lv : vs.length = m + 1 := by rw [da.length, f.1]
    refine ⟨by omega, fun L hL => ?_⟩
    have e2 := e.w.tmp (o := .lst vs) hL
    have a2 := sameAdd (o := .lst vs) hL _ _ (e.w.same _ _ ((s.trans e.sub) _ _ ga))
    refine ⟨a, L, _, _, rfl, rfl, a2, upd_same, by rw [List.length_map]; omega, fun q hq => ?_⟩
    have e3 := e2.w.put (o := .lst (ns.map V.int ++ vs)) hq
    refine k (.ref q) (.list (ns.map PyData.int ++ ds)) _ _ ((e.trans W e2).trans W e3) (.lst upd_same ((da_ints ns).append (da.mono e3.sub))) ⟨_, rfl, ?_, ?_, fun x mx => ?_⟩
    · rw [List.length_append, f.1]
      omega
    · rw [List.length_append, List.length_map, f.1]
      omega
    · rcases List.mem_append.mp mx with mx | mx
      · obtain ⟨n, mn, rfl⟩ := List.mem_map.mp mx
        exact ⟨n, rfl, hn n mn⟩
      · exact f.2 x mx⟩
theorem TD.retTupP {K : PySem.W.Frag} {p l : Addr} {σ : St} {G H : Hp} {ta : TE} {φ : PyData → Prop} {D : Ends} (h : TD K p l σ G ta φ) (W : Wd p l G H)
    (k : ∀ v d G2 H2, Ext p l G H G2 H2 → Da K G2 v d → φ d → ∃ L xs, v = .ref L ∧ SqL K H2 L xs ∧ ∀ h o, PlO o → H2 h = none → D.rt (.ref h) (upd H2 h (.frz o (.tup xs)))) :
    tRet (tCB (fun xs H Q => ∃ p ys, xs = [.ref p] ∧ SqL K H p ys ∧ ∀ l o, PlO o → H l = none → Q (.ref l) (upd H l (.frz o (.tup ys)))) (tCons ta tNil)) D σ H := h G H _ W (Same.refl G) fun v d G2 H2 e da f => by
  obtain ⟨L, xs, rfl, hS, k2⟩ := k v d G2 H2 e da f
  exact ⟨L, xs, rfl, hS, k2⟩
def spHeap8 (K : PySem.W.Frag) : Sp := fun vs H Q _ => ∃ (p l : Addr) (G : Hp), vs = [.ref p] ∧ Wd p l G H ∧
  ∀ (h : Addr) (hp : Hl) (G2 H2 : Hp), Wd p l G2 H2 → Same G G2 → PrT K G2 h (hpK hp) → (keysH hp).Pairwise (· < ·) → hp.length ≤ 10 → (∀ c ∈ hp, (1 ≤ c.1 ∧ c.1 ≤ 10) ∧ 0 ≤ c.2 ∧ c.2 ≤ 12) → Q (.ref h) H2
section
variable {P : Program} {w : World} {K : PySem.W.Frag} {mg : Str → Option Value} {base : Heap}
theorem D_l_due (T : Txt K mg) : Df P w K mg base 1 "_law_due" ["store", "heap"] (spDue K) := by
  obtain ⟨f, fd, S⟩ := T.d_l_due
  refine Df.mk' (k := 0) S sc_l_due (fun vs H Q E h => ?_) (fun cdv A outer s H vs Q E hgd hr h => ?_)
  · obtain ⟨s, h, st, hp, rfl, _⟩ := h
    rfl
  · obtain ⟨sa, ha, st, hp, rfl, hs, hh, oks, ok, k⟩ := h
    have hu := hu_of hr
    refine ⟨_, (pss_cons (ps_asg (pe_tup (pa_cons (pe_callTy (call_dictPT rfl) (by rfl) T.b_dict (by decide +kernel) (pa_cons (pv 1) pa_nil)) (pa_cons (pe_lst pa_nil) pa_nil))) (pg_tup rfl (pgs_cons (pg_name (i := 2) sc_l_due.nd rfl (.inl rfl)) (pgs_cons (pg_name (i := 3) sc_l_due.nd rfl (.inr rfl)) pgs_nil))))
      (pss_cons (ps_for PassesOwn.never rfl (pi_tup (pv 0)) (pg_tup rfl (pgs_cons (pg_name (i := 4) sc_l_due.nd rfl (.inl rfl)) (pgs_cons (pg_name (i := 5) sc_l_due.nd rfl (.inl rfl)) pgs_nil)))
      (pss_one (ps_while PassesOwn.never (PW.pt (pw_and (pt_cmp (pc_din hu (pv 5) (pv 2))) (pw_and1 (pt_cmpR op_notIn_seq (pv 5) (pv 3) (by rfl))))) (pss_cons (ps_expr (pe_bm PySem.F.plainAttrs_list PySem.F.slot_list_append PySem.F.type_list_append mt_append (pv 3) (pa_cons (pv 5) pa_nil)))
      (pss_one (ps_set (i := 5) sc_l_due.nd rfl (.inl rfl) (pe_dget hu (pv 2) (pv 5) (fun _ _ => rfl))))))))
      (pss_one (ps_ret (pe_callTy call_tuple_of (by rfl) T.b_tuple (by decide +kernel) (pa_cons (pe_lc (X := (cxOf CX0 P w K mg base ["store", "heap", "cells", "seen", "name", "at", "value"] "_law_due" (defScope s_l_due) f cdv A outer s H E).nox) (own := [("at", 5), ("value", 6)]) (g := gTup K 2 (gCons (gName 5) (gCons (gName 6) gNil))) (tt := tTest (tOp (rIn K true) (tVar 5) (tVar 3))) (te := tVar 5) rfl sc_l_due.nd (pi_tup (pv 1)) (blkOk_by (own := [("at", 5), ("value", 6)]) (N := ["store", "heap", "cells", "seen", "name", "at", "value"]) (sc := defScope s_l_due) (by decide +kernel)) (fun _ _ _ _ _ => pg_tup rfl (pgs_cons (pg_name (i := 5) sc_l_due.nd rfl (.inl rfl)) (pgs_cons (pg_name (i := 6) sc_l_due.nd rfl (.inl rfl)) pgs_nil))) (fun _ _ _ _ _ => (pts_one (pt_cmpR op_notIn_seq (pv 5) (pv 3) (by rfl)))) (fun _ _ _ _ _ => (pv 5))) pa_nil)))))), ?_⟩
    obtain ⟨ys, yP, yl, yA⟩ := pairs_at hh
    obtain ⟨zs, zP, zl, zA⟩ := stores_at hs
    obtain ⟨ps, pl, pr⟩ := hh
    refine ⟨_, rfl, ha, ps, hpK hp, rfl, pl, pr, fun L hL => ?_⟩
    rw [merge_hp ok]
    have qL : Same H (upd H L (.dK (hpK hp))) := sameAdd hL
    have hL1 : (upd H L (.dK (hpK hp))) L = some (.dK (hpK hp)) := upd_same
    refine ⟨Nat.zero_le _, fun D hD => ⟨by show 2 ≤ sizeLine; decide, fun t ht => ⟨t, _, rfl, SqT.of upd_same, rfl, _, _, rfl, _, _, rfl, rfl, ?_⟩⟩⟩
    have nLD : L ≠ D := fun e => by
      rw [e, upd_same] at hD
      cases hD
    have nDt : D ≠ t := fun e => by
      rw [e, upd_same] at ht
      cases ht
    have nLt : L ≠ t := fun e => by
      rw [← e, upd_ne nLD, upd_same] at ht
      cases ht
    have hD0 : H D = none := by
      cases e : H D with
      | none => rfl
      | some o =>
        rw [sameAdd hL _ _ e] at hD
        cases hD
    have qL : Same H (upd (upd (upd H L (.dK (hpK hp))) D (.lst [])) t (.tup [.ref L, .ref D])) := ((sameAdd hL).trans (sameAdd hD)).trans (sameAdd ht)
    have hL1 : (upd (upd (upd H L (.dK (hpK hp))) D (.lst [])) t (.tup [.ref L, .ref D])) L = some (.dK (hpK hp)) := by rw [upd_ne nLt, upd_ne nLD, upd_same]
    have hD1 : (upd (upd (upd H L (.dK (hpK hp))) D (.lst [])) t (.tup [.ref L, .ref D])) D = some (.lst (([] : List Int).map V.int)) := by rw [upd_ne nDt, upd_same]; rfl
    dsimp only [gName, List.set]
    generalize upd (upd (upd H L (.dK (hpK hp))) D (.lst [])) t (.tup [.ref L, .ref D]) = H1 at qL hL1 hD1 ⊢
    refine ⟨_, rfl, sa, rfl, ⟨_, sameT qL zP.sqT⟩, for_tup (K := K) (a := sa) (xs := zs) (fun i σ H2 => ∃ o4 o5 o6 Tk, σ = [some (.ref sa), some (.ref ha), some (.ref L), some (.ref D), o4, o5, o6] ∧ Same H H2 ∧ H2 L = some (.dK (hpK hp)) ∧ H2 D = some (.lst (Tk.map V.int)) ∧
        Once (keysH hp) Tk ∧ metP hp st [] = metP hp (st.drop i) Tk) ⟨_, _, _, [], rfl, qL, hL1, hD1, Once.nil, rfl⟩ (fun i σ H2 _ ⟨_, _, _, _, _, q, _⟩ => sameT q zP.sqT) ?_ ?_⟩
    · rintro i x σ H2 hx ⟨o4, o5, o6, Tk, rfl, q2, hL2, hD2, on, mt⟩
      obtain ⟨c, t, hc, rfl, tT⟩ := zA i x hx
      rw [drop_row hc, metP] at mt
      refine ⟨t, _, rfl, sameT q2 tT, rfl, _, _, rfl, _, _, rfl, rfl, ?_⟩
      dsimp only [gName, List.set]
      refine ⟨fun m σ H3 => ∃ v T2, σ = [some (.ref sa), some (.ref ha), some (.ref L), some (.ref D), some (.str c.1), some (.int v), o6] ∧ m = msr (keysH hp) T2 ∧ Same H H3 ∧ H3 L = some (.dK (hpK hp)) ∧ H3 D = some (.lst (T2.map V.int)) ∧ Once (keysH hp) T2 ∧
          reachF (keysH hp) (mapH hp) c.2 Tk = reachF (keysH hp) (mapH hp) v T2, ⟨_, c.2, Tk, rfl, rfl, q2, hL2, hD2, on, rfl⟩, ?_⟩
      rintro m σ H3 ⟨v, T2, rfl, rfl, q3, hL3, hD3, on3, rc⟩
      have stop : ¬ (v ∈ keysH hp ∧ ¬ v ∈ T2) → ∃ o4 o5 o6' Tk, ([some (.ref sa), some (.ref ha), some (.ref L), some (.ref D), some (.str c.1), some (.int v), o6] : St) = [some (.ref sa), some (.ref ha), some (.ref L), some (.ref D), o4, o5, o6'] ∧ Same H H3 ∧ H3 L = some (.dK (hpK hp)) ∧ H3 D = some (.lst (Tk.map V.int)) ∧
          Once (keysH hp) Tk ∧ metP hp st [] = metP hp (st.drop (i + 1)) Tk := fun hn => by
        rw [reachF_no hn] at rc
        exact ⟨_, _, _, T2, rfl, q3, hL3, hD3, on3, by rw [mt, rc]⟩
      refine ⟨_, rfl, _, rfl, L, _, rfl, get_h hL3, _, rfl, ?_⟩
      rw [is_h]
      refine iteD (fun h1 => ?_) (fun h1 => ?_)
      · refine ⟨_, rfl, _, rfl, D, _, rfl, .inl (SqL.of hD3), rfl, flat_ints T2, _, rfl, ?_⟩
        show if (!inV (.int v) (T2.map V.int)) = true then _ else _
        rw [inV_int]
        refine iteND (fun h2 => ?_) (fun h2 => ?_)
        · refine ⟨fun σ H4 => ∃ v T3, σ = [some (.ref sa), some (.ref ha), some (.ref L), some (.ref D), some (.str c.1), some (.int v), o6] ∧ msr (keysH hp) T3 < msr (keysH hp) T2 ∧ Same H H4 ∧ H4 L = some (.dK (hpK hp)) ∧ H4 D = some (.lst (T3.map V.int)) ∧ Once (keysH hp) T3 ∧
              reachF (keysH hp) (mapH hp) c.2 Tk = reachF (keysH hp) (mapH hp) v T3, fun σ H4 ⟨v, T3, e1, lt, r⟩ => ⟨_, lt, v, T3, e1, rfl, r⟩, ?_⟩
          have lT : T2.length < sizeLine := by
            have := once_len on3
            have hl := ok.2
            unfold keysH at this
            rw [List.length_map] at this
            exact small2000 (by omega)
          refine ⟨_, rfl, .inl ⟨rfl, _, SqL.of hD3⟩, _, rfl, D, _, _, rfl, rfl, hD3, by rw [List.length_map]; exact lT, ?_⟩
          have em : T2.map V.int ++ [V.int v] = (T2 ++ [v]).map V.int := by rw [List.map_append]; rfl
          rw [em]
          have hL4 : (upd H3 D (.lst ((T2 ++ [v]).map V.int))) L = some (.dK (hpK hp)) := by rw [upd_ne nLD]; exact hL3
          refine ⟨_, rfl, _, rfl, L, _, rfl, get_hin hL4 h1, ?_⟩
          exact ⟨_, _, rfl, msr_lt h1 h2, sameOut q3 hD0, hL4, upd_same, on3.snoc h1 h2, by rw [rc, reachF_on h1 h2]⟩
        · exact stop fun q => q.2 h2
      · exact stop fun q => h1 q.1
    · rintro σ H2 ⟨o4, o5, o6, Tk, rfl, q02, hL2, hD2, on, mt⟩
      rw [zl, List.drop_length] at mt
      have mt : metP hp st [] = Tk := mt
      dsimp only [gName, List.set]
      refine ⟨_, rfl, ha, rfl, ⟨_, sameT q02 yP.sqT⟩, fun N hN => lc_tup (K := K) (a := ha) (xs := ys) (fun i H4 => Same H2 H4 ∧ H4 N = some (.lst (((hp.take i).filter fun c => !decide (c.1 ∈ Tk)).map fun c => V.int c.1))) ⟨sameAdd hN, upd_same⟩ (fun i H4 _ q => sameT (q02.trans q.1) yP.sqT) ?_ ?_⟩
      · rintro i x H4 hx ⟨q4, hN4⟩
        obtain ⟨c, t, hc, rfl, tT⟩ := yA i x hx
        have hi := (List.getElem?_eq_some_iff.mp hc).1
        have et : ((hp.take (i + 1)).filter fun c => !decide (c.1 ∈ Tk)) = ((hp.take i).filter fun c => !decide (c.1 ∈ Tk)) ++ if (!decide (c.1 ∈ Tk)) = true then [c] else [] := by
          rw [List.take_add_one, hc, Option.toList_some, List.filter_append, List.filter_cons, List.filter_nil]
        refine ⟨t, _, rfl, sameT (q02.trans q4) tT, rfl, _, _, rfl, _, _, rfl, rfl, ?_⟩
        refine ⟨rfl, _, rfl, _, rfl, D, _, rfl, .inl (SqL.of (q4 _ _ hD2)), rfl, flat_ints Tk, _, rfl, ?_⟩
        show if (!inV (.int c.1) (Tk.map V.int)) = true then _ else _
        rw [inV_int]
        refine iteB (fun hb => ?_) (fun hb => ?_)
        · rw [if_pos hb] at et
          refine ⟨_, rfl, _, hN4, ?_, sameOut q4 hN, ?_⟩
          · rw [List.length_map]
            have := ok.2
            have h2 := List.length_filter_le (fun c : Int × Int => !decide (c.1 ∈ Tk)) (hp.take i)
            rw [List.length_take] at h2
            exact small2000 (by omega)
          · rw [upd_same, et, List.map_append]
            rfl
        · rw [if_neg (by rw [hb]; exact Bool.false_ne_true), List.append_nil] at et
          exact ⟨q4, by rw [et]; exact hN4⟩
      · rintro H4 ⟨q4, hN4⟩
        rw [yl, List.take_length] at hN4
        refine ⟨N, _, rfl, .inl ⟨SqL.of hN4, fun l hl => ?_⟩⟩
        refine k l _ ((q02.trans q4).trans (sameAdd hl)) (Same.none (q02.trans q4) hl) ?_
        rw [upd_same]
        unfold lostL
        rw [mt, List.map_map]
        rfl
theorem D_l_heap (T : Txt K mg) : Df P w K mg base 3 "_law_heap" ["deck"] (spHeap8 K) := by
  have D_l_draw := D_draw (P := P) (w := w) (base := base) T
  have D_l_pick := D_pick (P := P) (w := w) (base := base) T
  have D_l_shuffled := D_l_shuffled (P := P) (w := w) (base := base) T
  obtain ⟨f, fd, S⟩ := T.d_l_heap
  refine Df.mk' (k := 2) S sc_l_heap (fun vs H Q E h => ?_) (fun cdv A outer s H vs Q E hgd hr h => ?_)
  · obtain ⟨p, l, G, rfl, _⟩ := h
    rfl
  · obtain ⟨p, l, G, rfl, W, k⟩ := h
    refine ⟨_, (pss_cons (ps_set (i := 1) sc_l_heap.nd rfl (.inr rfl) (pe_callB cr_sortedI (by rfl) T.b_sorted (by decide +kernel) (pa_cons (pe_slice sl_list (pe_d D_l_shuffled hgd hr (pa_cons (pv 0) (pa_cons (pe_lst (pa_cons pe_int (pa_cons pe_int (pa_cons pe_int (pa_cons pe_int (pa_cons pe_int (pa_cons pe_int (pa_cons pe_int (pa_cons pe_int (pa_cons pe_int (pa_cons pe_int pa_nil))))))))))) pa_nil))) po_none (po_some (pe_d D_l_draw hgd hr (pa_cons (pv 0) (pa_cons pe_int pa_nil))))) pa_nil)))
      (pss_one (ps_ret (pe_callTy call_tuple_ofP (by rfl) T.b_tuple (by decide +kernel) (pa_cons (pe_lc (own := [("at", 2)]) (g := gName 2) (tt := tYes) rfl sc_l_heap.nd (pi_list (pv 1)) (blkOk_by (own := [("at", 2)]) (N := ["deck", "ats", "at"]) (sc := defScope s_l_heap) (by decide +kernel)) (fun _ _ _ _ _ => pg_name (i := 2) sc_l_heap.nd rfl (.inl rfl)) (fun _ _ _ _ _ => pts_nil) (fun _ _ _ _ _ => (pe_tup (pa_cons (pv 2) (pa_cons (pe_d D_l_pick hgd hr (pa_cons (pv 0) (pa_cons (pe_op op_cat (pv 1) (pe_lst (pa_cons pe_int (pa_cons pe_int (pa_cons pe_int (pa_cons pe_int pa_nil)))))) pa_nil))) pa_nil))))) pa_nil))))), ?_⟩
    refine ⟨_, rfl, by show 10 ≤ sizeLine; decide, fun L0 h0 => ?_⟩
    have e0 := W.tmp (o := .lst (([1, 2, 3, 4, 5, 6, 7, 8, 9, 10] : List Int).map V.int)) h0
    refine ⟨p, l, G, L0, [1, 2, 3, 4, 5, 6, 7, 8, 9, 10], rfl, e0.w, SqL.of upd_same, by decide, fun r ys G1 H1 e1 g1 pm => ?_⟩
    refine ⟨_, rfl, p, l, G1, 11, rfl, by decide, by decide, e1.w, fun d H2 d0 d1 e2 => ?_⟩
    obtain ⟨ms, ec, sub⟩ := cut_sub ys none (some d)
    refine ⟨d, rfl, r, ys.map V.int, rfl, SqL.of (e2.w.same _ _ g1), fun L3 h3 => ?_⟩
    rw [ec]
    have e3 := e2.w.tmp (o := .lst (ms.map V.int)) h3
    refine ⟨L3, ms, rfl, SqL.of upd_same, fun ns L4 pm2 rise h4 => ?_⟩
    have e4 := e3.w.put (o := .lst (ns.map V.int)) h4
    have g4 : (upd G1 L4 (.lst (ns.map V.int))) L4 = some (.lst (ns.map V.int)) := upd_same
    have W4 := e4.w
    have s4 := e1.sub.trans e4.sub
    have mem : ∀ n ∈ ns, 1 ≤ n ∧ n ≤ 10 := fun n m => by
      have m2 := pm.mem_iff.mp (sub.mem (pm2.mem_iff.mp m))
      have h : ∀ n ∈ ([1, 2, 3, 4, 5, 6, 7, 8, 9, 10] : List Int), 1 ≤ n ∧ n ≤ 10 := by decide +kernel
      exact h n m2
    have nd : ns.Nodup := pm2.nodup_iff.mpr ((pm.nodup_iff.mpr (by decide +kernel)).sublist sub)
    have ln : ns.length ≤ 10 := by
      rw [pm2.length_eq]
      have := sub.length_le
      rw [pm.length_eq] at this
      exact this
    have asc : ns.Pairwise (· < ·) := (rise.and nd).imp fun {a b} q => by
      have := q.1
      have := q.2
      omega
    clear e4 e3 e2 e1 e0 h0 h3 h4 g1 pm pm2 sub ec rise
    generalize upd G1 L4 (.lst (ns.map V.int)) = G4 at g4 W4 s4
    generalize upd (upd H2 L3 (.lst (ms.map V.int))) L4 (.lst (ns.map V.int)) = H4 at W4 ⊢
    dsimp only [gName, List.set]
    refine TD.retTupP (K := K) (p := p) (l := l) (G := G4)
      (φ := fun d => ∃ ds, d = .list ds ∧ ds.length = (ns.map V.int).length ∧ ∀ m e, ds[m]? = some e → PairN 12 (ns.map fun n => (.inl n : Key)) m e) ?h1 W4 (fun u d G5 H5 e5 da5 f5 => ?_)
    case h1 =>
      refine td_lcl (φ := PairN 12 (ns.map fun n => (.inl n : Key))) rfl (SqL.of g4) (by rw [List.length_map]; exact Nat.lt_of_le_of_lt ln (by decide)) fun m x hx => ?_
      rw [List.getElem?_map] at hx
      obtain ⟨z, hz, rfl⟩ := Option.map_eq_some_iff.mp hx
      exact td_pairN (key := .inl z) rfl rfl (by rw [List.getElem?_map, hz]; rfl) (td_catN rfl g4 (fun n m => ⟨by have := mem n m; omega, by have := mem n m; omega⟩) (m := 3) (by omega) (tds_consF td_small (tds_consF td_small (tds_consF td_small (tds_consF td_small tds_nilF)))))
    obtain ⟨ds, rfl, ld, fd2⟩ := f5
    cases da5 with
    | @lst L xs _ gL aL =>
      obtain ⟨ts, kvs, rfl, pr, ek, iv⟩ := pairs_of_da (B := 12) (ks := ns.map fun n => (.inl n : Key)) aL (by rw [ld, List.length_map, List.length_map]) fd2
      obtain ⟨hp, rfl, en, sb⟩ := hl_of ek iv
      refine ⟨L, _, rfl, SqL.of (e5.w.same _ _ gL), fun h o po hh => ?_⟩
      have e6 := e5.w.put (o := .frz o (.tup (ts.map V.ref))) hh
      refine k h hp _ _ e6.w ((s4.trans e5.sub).trans e6.sub) ⟨ts, ⟨o, po, upd_same⟩, paired_mono (fun _ _ _ q => sameT e6.sub q) pr⟩ (by rw [en]; exact asc) ?_ fun c m => ⟨mem c.1 ?_, sb c m⟩
      · have := congrArg List.length en
        unfold keysH at this
        rw [List.length_map] at this
        omega
      · rw [← en]
        exact List.mem_map.mpr ⟨c, m, rfl⟩
end
end L2.Hx

/-! Lost cells and joined clauses: addresses called otherwise. -/
namespace L2.Hx
open PySem PySem.Spec PyProof.Rows
/-- pairs put into a dict one behind the other -/
def foldH (l : List (Int × Int)) (hp : Hl) : Hl := l.foldl (fun acc q => putH acc q.1 q.2) hp
theorem mergeK_fold : ∀ (l : List (Int × Int)) (hp : Hl), mergeK (hpK hp) (l.map fun q => ((.inl q.1 : Key), V.int q.2)) = hpK (foldH l hp)
  | [], _ => rfl
  | q :: l, hp => by
    show mergeK (putK (hpK hp) (.inl q.1) (.int q.2)) (l.map fun q => ((.inl q.1 : Key), V.int q.2)) = hpK (foldH l (putH hp q.1 q.2))
    rw [putK_hp]
    exact mergeK_fold l _
theorem foldH_nodup : ∀ (l : List (Int × Int)) {hp : Hl}, (keysH hp).Nodup → (keysH (foldH l hp)).Nodup
  | [], _, h => h
  | q :: l, hp, h => foldH_nodup l (putH_nodup h)
theorem foldH_len : ∀ (l : List (Int × Int)) (hp : Hl), (foldH l hp).length ≤ hp.length + l.length
  | [], _ => Nat.le_refl _
  | q :: l, hp => by
    have h1 := foldH_len l (putH hp q.1 q.2)
    have h2 := putH_len hp q.1 q.2
    show (foldH l (putH hp q.1 q.2)).length ≤ _
    rw [List.length_cons]
    omega
theorem mem_putH {hp : Hl} {k v : Int} {c : Int × Int} (m : c ∈ putH hp k v) : c ∈ hp ∨ c = (k, v) := by
  unfold putH at m
  split at m
  · obtain ⟨d, md, rfl⟩ := List.mem_map.mp m
    split
    · exact .inr rfl
    · exact .inl md
  · rcases List.mem_append.mp m with m | m
    · exact .inl m
    · exact .inr (List.mem_singleton.mp m)
theorem mem_foldH : ∀ (l : List (Int × Int)) {hp : Hl} {c : Int × Int}, c ∈ foldH l hp → c ∈ hp ∨ c ∈ l
  | [], _, _, m => .inl m
  | q :: l, hp, c, m => by
    rcases mem_foldH l (hp := putH hp q.1 q.2) m with m | m
    · rcases mem_putH m with m | m
      · exact .inl m
      · exact .inr (by rw [m]; exact List.mem_cons_self)
    · exact .inr (List.mem_cons_of_mem _ m)
theorem key_putH {hp : Hl} {k v : Int} : k ∈ keysH (putH hp k v) ∧ ∀ x ∈ keysH hp, x ∈ keysH (putH hp k v) := by
  rw [putH_keys]
  by_cases h : k ∈ keysH hp
  · rw [if_pos h]
    exact ⟨h, fun x m => m⟩
  · rw [if_neg h]
    exact ⟨List.mem_append_right _ List.mem_cons_self, fun x m => List.mem_append_left _ m⟩
theorem key_foldH : ∀ (l : List (Int × Int)) {hp : Hl} {k : Int}, k ∈ keysH hp ∨ k ∈ l.map (·.1) → k ∈ keysH (foldH l hp)
  | [], _, _, h => h.elim id fun m => absurd m List.not_mem_nil
  | q :: l, hp, k, h => by
    refine key_foldH l (hp := putH hp q.1 q.2) ?_
    rcases h with h | h
    · exact .inl (key_putH.2 k h)
    · rcases List.mem_cons.mp h with rfl | h
      · exact .inl key_putH.1
      · exact .inr h
theorem zip_inj : ∀ {ns us : List Int} {a b v : Int}, us.Nodup → (a, v) ∈ ns.zip us → (b, v) ∈ ns.zip us → a = b
  | [], _, _, _, _, _, m, _ => absurd m List.not_mem_nil
  | _ :: _, [], _, _, _, _, m, _ => absurd m List.not_mem_nil
  | n :: ns, u :: us, a, b, v, nd, m1, m2 => by
    have nd2 := List.nodup_cons.mp nd
    rcases List.mem_cons.mp m1 with e1 | m1
    · rcases List.mem_cons.mp m2 with e2 | m2
      · cases e1
        cases e2
        rfl
      · cases e1
        exact absurd (List.of_mem_zip m2).2 nd2.1
    · rcases List.mem_cons.mp m2 with e2 | m2
      · cases e2
        exact absurd (List.of_mem_zip m1).2 nd2.1
      · exact zip_inj nd2.2 m1 m2
/-- the new names: one for each, unlike ones for unlike ones -/
theorem names_fine {ns us : List Int} (le : ns.length ≤ us.length) (nd : us.Nodup) :
    (keysH (foldH (ns.zip us) [])).Nodup ∧ (∀ k ∈ ns, k ∈ keysH (foldH (ns.zip us) [])) ∧ (∀ x ∈ keysH (foldH (ns.zip us) []), ∀ y ∈ keysH (foldH (ns.zip us) []), mapH (foldH (ns.zip us) []) x = mapH (foldH (ns.zip us) []) y → x = y) ∧
    ∀ x ∈ keysH (foldH (ns.zip us) []), mapH (foldH (ns.zip us) []) x ∈ us := by
  have n0 := foldH_nodup (ns.zip us) (hp := []) List.nodup_nil
  have m : ∀ x ∈ keysH (foldH (ns.zip us) []), (x, mapH (foldH (ns.zip us) []) x) ∈ ns.zip us := fun x h => (mem_foldH _ (mem_mapH n0 h)).elim (fun q => absurd q List.not_mem_nil) id
  refine ⟨n0, fun k h => key_foldH _ (.inr ?_), fun x hx y hy e => ?_, fun x hx => (List.of_mem_zip (m x hx)).2⟩
  · rw [List.map_fst_zip le]
    exact h
  · have m1 := m x hx
    rw [e] at m1
    exact zip_inj nd m1 (m y hy)
/-- which ones are called otherwise -/
def wantV (vals : List Int) : V → Bool
  | .int n => decide (0 < n) && !decide (n ∈ vals)
  | _ => false
theorem want_ints {vals : List Int} : ∀ xs : List V, ∃ ns : List Int, xs.filter (wantV vals) = ns.map V.int ∧ ns.length ≤ xs.length ∧ ∀ n, V.int n ∈ xs → 0 < n → n ∈ vals ∨ n ∈ ns
  | [] => ⟨[], rfl, Nat.le_refl _, fun n m => absurd m List.not_mem_nil⟩
  | x :: xs => by
    obtain ⟨ns, e, l, c⟩ := want_ints (vals := vals) xs
    by_cases h : wantV vals x = true
    · cases x with
      | int n =>
        refine ⟨n :: ns, by rw [List.filter_cons, if_pos h, e]; rfl, by rw [List.length_cons, List.length_cons]; omega, fun z m z0 => ?_⟩
        rcases List.mem_cons.mp m with q | m
        · cases q
          exact .inr List.mem_cons_self
        · exact (c z m z0).imp id (List.mem_cons_of_mem _)
      | _ => cases h
    · refine ⟨ns, by rw [List.filter_cons, if_neg h, e], by rw [List.length_cons]; omega, fun z m z0 => ?_⟩
      rcases List.mem_cons.mp m with q | m
      · subst q
        have h : ¬ (decide (0 < z) && !decide (z ∈ vals)) = true := h
        rw [decide_eq_true z0] at h
        exact .inl (by simpa using h)
      · exact c z m z0
def frF (n : Nat) : List Int := (List.range n).map fun k : Nat => 5 + 3 * (k : Int)
theorem frF_len {n : Nat} : (frF n).length = n := by
  unfold frF
  rw [List.length_map, List.length_range]
theorem frF_succ {n : Nat} : frF (n + 1) = frF n ++ [5 + 3 * (n : Int)] := by
  unfold frF
  rw [List.range_succ, List.map_append]
  rfl
theorem frF_nodup {n : Nat} : (frF n).Nodup := by
  unfold frF
  refine List.pairwise_map.mpr (List.nodup_range.imp fun {a b} ne e => ne ?_)
  omega
theorem frF_mem {n : Nat} {x : Int} (h : x ∈ frF n) : 5 ≤ x ∧ x < 5 + 3 * (n : Int) := by
  obtain ⟨k, hk, rfl⟩ := List.mem_map.mp h
  have := List.mem_range.mp hk
  omega
theorem fresh_nodup {n : Nat} (hn : n ≤ 1000) : ((0 : Int) :: (frF n ++ [10 ^ 60 + 1, 10 ^ 40])).Nodup := by
  have b1 : (100000 : Int) < 10 ^ 40 := by decide +kernel
  have b2 : (10 : Int) ^ 40 < 10 ^ 60 := by decide +kernel
  refine List.nodup_cons.mpr ⟨fun m => ?_, List.nodup_append.mpr ⟨frF_nodup, ?_, fun a ha b hb e => ?_⟩⟩
  · rcases List.mem_append.mp m with m | m
    · have := frF_mem m
      omega
    · rcases List.mem_cons.mp m with m | m
      · omega
      · have := List.mem_singleton.mp m
        omega
  · refine List.nodup_cons.mpr ⟨fun m => ?_, by simp⟩
    have := List.mem_singleton.mp m
    omega
  · have := frF_mem ha
    rcases List.mem_cons.mp hb with q | q
    · omega
    · have := List.mem_singleton.mp q
      omega
theorem paired_app {α β : Type} {R : α → β → Prop} : ∀ {as : List α} {bs : List β} {cs : List α} {ds : List β}, Paired R as bs → Paired R cs ds → Paired R (as ++ cs) (bs ++ ds)
  | _, _, _, _, .nil, s => s
  | _, _, _, _, .cons r t, s => .cons r (paired_app t s)
theorem paired_getG {α β : Type} {R : α → β → Prop} : ∀ {as : List α} {bs : List β} {i : Nat} {a : α}, Paired R as bs → as[i]? = some a → ∃ b, bs[i]? = some b ∧ R a b
  | _, _, _, _, .nil, e => by cases e
  | _, _, 0, _, .cons r _, e => by
    cases e
    exact ⟨_, rfl, r⟩
  | _, _, i + 1, _, .cons _ t, e => paired_getG (i := i) t e
theorem for_tup_by {K : PySem.W.Frag} {t : TE} {g : TG} {tb : TS} {D : Ends} {σ : St} {H : Hp} {I : Addr → Hp → Prop} (h : ∀ Q : VK, (∀ (tt : Addr) H2, I tt H2 → Q (.ref tt) H2) → t σ H Q) (k : ∀ (tt : Addr) H2, I tt H2 → tFor (iTup K (tC (.ref tt))) g tb D σ H2) :
    tFor (iTup K t) g tb D σ H := h _ k
def spCalled (K : PySem.W.Frag) : Sp := fun vs H Q _ => ∃ (p l : Addr) (G : Hp) (s h : Addr) (st : Sl) (hp : Hl), vs = [.ref p, .ref s, .ref h] ∧ Wd p l G H ∧ PrT K G s (stK st) ∧ PrT K G h (hpK hp) ∧ StOk st ∧ st.length ≤ 10 ∧ (keysH hp).Nodup ∧ hp.length ≤ 10 ∧ (∀ c ∈ st, 0 ≤ c.2) ∧ (∀ c ∈ hp, 0 ≤ c.1 ∧ 0 ≤ c.2) ∧
  ∀ (q s' h' d : Addr) (st' : Sl) (hp' om : Hl) (G2 H2 : Hp), Wd p l G2 H2 → Same G G2 → SqT K H2 q [.ref s', .ref h', .ref d] → PrT K G2 s' (stK st') → PrT K G2 h' (hpK hp') → G2 d = some (.dK (hpK om)) → Ren om st hp st' hp' → HpOk hp' → HpSm hp' → SrtH hp' → StOk st' → Q (.ref q) H2
section
variable {P : Program} {w : World} {K : PySem.W.Frag} {mg : Str → Option Value} {base : Heap}
theorem D_l_called (T : Txt K mg) : Df P w K mg base 3 "_law_called" ["deck", "store", "heap"] (spCalled K) := by
  have D_l_draw := D_draw (P := P) (w := w) (base := base) T
  have D_l_shuffled := D_l_shuffled (P := P) (w := w) (base := base) T
  obtain ⟨f, fd, S⟩ := T.d_l_called
  refine Df.mk' (k := 2) S sc_l_called (fun vs H Q E h => ?_) (fun cdv A outer s H vs Q E hgd hr h => ?_)
  · obtain ⟨p, l, G, s, h, st, hp, rfl, _⟩ := h
    rfl
  · obtain ⟨p, l, G, sa, ha, st, hp, rfl, W, pS, pH, oks, ls, ndh, lh, s0, h0, k⟩ := h
    have hu := hu_of hr
    have big : (2000 : Nat) ≤ sizeLine := by decide
    refine ⟨_, (pss_cons (ps_set (i := 3) sc_l_called.nd rfl (.inr rfl) (pe_lst pa_nil))
      (pss_cons (ps_for PassesOwn.never rfl (pi_tup (pe_op op_catA (pv 1) (pv 2))) (pg_tup rfl (pgs_cons (pg_name (i := 4) sc_l_called.nd rfl (.inl rfl)) (pgs_cons (pg_name (i := 5) sc_l_called.nd rfl (.inl rfl)) pgs_nil)))
      (pss_one (ps_set (i := 3) sc_l_called.nd rfl (.inr rfl) (pe_op op_cat (pv 3) (pe_lc (own := [("own", 6)]) (g := gName 6) (tt := tAnd (tNot (tB (tCB (rIsiD K) (tCons (tVar 6) (tCons (tC (.ty "str")) tNil))))) (tAnd (tTest (tOp (rI0 fun i j => V.bl (decide (j < i))) (tVar 6) (tC (.int 0)))) (tTest (tOp (rIn K true) (tVar 6) (tVar 3))))) (te := tVar 6) rfl sc_l_called.nd (pi_tup (pe_tup (pa_cons (pv 4) (pa_cons (pv 5) pa_nil)))) (blkOk_by (own := [("own", 6)]) (N := ["deck", "store", "heap", "values", "first", "second", "own", "fresh", "spot", "other", "cells", "at", "value", "name"]) (sc := defScope s_l_called) (by decide +kernel)) (fun _ _ _ _ _ => pg_name (i := 6) sc_l_called.nd rfl (.inl rfl)) (fun _ _ _ _ _ => (pts_one (PW.pt (pw_and (pt_not (pt_val (pe_callB call_isiD (by rfl) T.b_isinstance (by decide +kernel) (pa_cons (pv 6) (pa_cons (pe_bT (n := "str") T.b_str (by decide +kernel)) pa_nil))))) (pw_and (pt_cmpR op_gt (pv 6) pe_int (nomark _)) (pw_and1 (pt_cmpR op_notIn_seq (pv 6) (pv 3) (by rfl)))))))) (fun _ _ _ _ _ => (pv 6)))))))
      (pss_cons (ps_set (i := 7) sc_l_called.nd rfl (.inl rfl) (pe_d D_l_shuffled hgd hr (pa_cons (pv 0) (pa_cons (pe_op op_cat (pe_lc (own := [("spot", 8)]) (g := gName 8) (tt := tYes) rfl sc_l_called.nd (pi_range1 rfl T.b_range (pa_cons (pe_callB call_len_seq (by rfl) T.b_len (by decide +kernel) (pa_cons (pv 3) pa_nil)) pa_nil)) (blkOk_by (own := [("spot", 8)]) (N := ["deck", "store", "heap", "values", "first", "second", "own", "fresh", "spot", "other", "cells", "at", "value", "name"]) (sc := defScope s_l_called) (by decide +kernel)) (fun _ _ _ _ _ => pg_name (i := 8) sc_l_called.nd rfl (.inl rfl)) (fun _ _ _ _ _ => pts_nil) (fun _ _ _ _ _ => (pe_op op_add pe_int (pe_op op_mul pe_int (pv 8))))) (pe_lst (pa_cons (pe_op op_add (pe_op op_pow pe_int pe_int) pe_int) (pa_cons (pe_op op_pow pe_int pe_int) pa_nil)))) pa_nil))))
      (pss_cons (ps_set (i := 9) sc_l_called.nd rfl (.inr rfl) (pe_dictZip rfl (by rfl) T.b_dict (by rfl) T.b_zip (pa_cons (pe_op op_cat (pe_lst (pa_cons pe_int pa_nil)) (pv 3)) (pa_cons (pe_op op_cat (pe_lst (pa_cons pe_int pa_nil)) (pv 7)) pa_nil))))
      (pss_cons (ps_set (i := 10) sc_l_called.nd rfl (.inl rfl) (pe_callTy call_tuple_ofP (by rfl) T.b_tuple (by decide +kernel) (pa_cons (pe_callB cr_sortedPO (by rfl) T.b_sorted (by decide +kernel) (pa_cons (pe_lc (X := (cxOf CX0 P w K mg base ["deck", "store", "heap", "values", "first", "second", "own", "fresh", "spot", "other", "cells", "at", "value", "name"] "_law_called" (defScope s_l_called) f cdv A outer s H E).nox) (own := [("at", 11), ("value", 12)]) (g := gTup K 2 (gCons (gName 11) (gCons (gName 12) gNil))) (tt := tYes) (te := tTup (tCons (tDGet (tVar 9) (tVar 11)) (tCons (tDGet (tVar 9) (tVar 12)) tNil))) rfl sc_l_called.nd (pi_tup (pv 2)) (blkOk_by (own := [("at", 11), ("value", 12)]) (N := ["deck", "store", "heap", "values", "first", "second", "own", "fresh", "spot", "other", "cells", "at", "value", "name"]) (sc := defScope s_l_called) (by decide +kernel)) (fun _ _ _ _ _ => pg_tup rfl (pgs_cons (pg_name (i := 11) sc_l_called.nd rfl (.inl rfl)) (pgs_cons (pg_name (i := 12) sc_l_called.nd rfl (.inl rfl)) pgs_nil))) (fun _ _ _ _ _ => pts_nil) (fun _ _ _ _ _ => (pe_tup (pa_cons (pe_dget hu (pv 9) (pv 11) (fun _ _ => rfl)) (pa_cons (pe_dget hu (pv 9) (pv 12) (fun _ _ => rfl)) pa_nil))))) pa_nil)) pa_nil)))
      (pss_one (ps_ret (pe_tup (pa_cons (pe_callTy call_tuple_ofP (by rfl) T.b_tuple (by decide +kernel) (pa_cons (pe_lc (X := (cxOf CX0 P w K mg base ["deck", "store", "heap", "values", "first", "second", "own", "fresh", "spot", "other", "cells", "at", "value", "name"] "_law_called" (defScope s_l_called) f cdv A outer s H E).nox) (own := [("name", 13), ("value", 12)]) (g := gTup K 2 (gCons (gName 13) (gCons (gName 12) gNil))) (tt := tYes) (te := tTup (tCons (tVar 13) (tCons (tDGet (tVar 9) (tVar 12)) tNil))) rfl sc_l_called.nd (pi_tup (pv 1)) (blkOk_by (own := [("name", 13), ("value", 12)]) (N := ["deck", "store", "heap", "values", "first", "second", "own", "fresh", "spot", "other", "cells", "at", "value", "name"]) (sc := defScope s_l_called) (by decide +kernel)) (fun _ _ _ _ _ => pg_tup rfl (pgs_cons (pg_name (i := 13) sc_l_called.nd rfl (.inl rfl)) (pgs_cons (pg_name (i := 12) sc_l_called.nd rfl (.inl rfl)) pgs_nil))) (fun _ _ _ _ _ => pts_nil) (fun _ _ _ _ _ => (pe_tup (pa_cons (pv 13) (pa_cons (pe_dget hu (pv 9) (pv 12) (fun _ _ => rfl)) pa_nil))))) pa_nil)) (pa_cons (pv 10) (pa_cons (pv 9) pa_nil))))))))))), ?_⟩
    obtain ⟨ps1, pl1, pr1⟩ := pS
    obtain ⟨ps2, pl2, pr2⟩ := pH
    refine ⟨Nat.zero_le _, fun L0 hL0 => ?_⟩
    have e0 := W.put (o := .lst []) hL0
    have W0 := e0.w
    have s01 := e0.sub
    have g0 : (upd G L0 (.lst [])) L0 = some (.lst (([] : List Int).map V.int)) := upd_same
    generalize upd G L0 (.lst []) = G0 at W0 s01 g0
    generalize upd H L0 (.lst []) = H0 at W0 ⊢
    dsimp only [gName, List.set]
    have l1 : ps1.length = st.length := by
      have := paired_len pr1
      unfold stK at this
      rw [List.length_map] at this
      exact this
    have l2 : ps2.length = hp.length := by
      have := paired_len pr2
      unfold hpK at this
      rw [List.length_map] at this
      exact this
    have prA : Paired (fun (t : Addr) (kv : Key × V) => SqT K G t [kV kv.1, kv.2]) (ps1 ++ ps2) (stK st ++ hpK hp) := paired_app pr1 pr2
    have vA : ∀ kv ∈ stK st ++ hpK hp, ∃ v : Int, kv.2 = .int v := fun kv m => by
      rcases List.mem_append.mp m with m | m
      · obtain ⟨c, _, rfl⟩ := List.mem_map.mp m
        exact ⟨c.2, rfl⟩
      · obtain ⟨c, _, rfl⟩ := List.mem_map.mp m
        exact ⟨c.2, rfl⟩
    refine for_tup_by (K := K) (I := fun tt H' => ∃ G' : Hp, Wd p l G' H' ∧ Same G0 G' ∧ SqT K G' tt ((ps1 ++ ps2).map V.ref)) (fun Qn fin => ?_) ?_
    · refine ⟨_, rfl, _, rfl, sa, ha, ps1.map V.ref, ps2.map V.ref, rfl, rfl, sameT (s01.trans W0.same) pl1.sqT, sameT (s01.trans W0.same) pl2.sqT, by rw [List.length_map, List.length_map]; omega, fun e => ?_, fun e e2 => ?_, fun e e2 q hq => ?_⟩
      · refine fin _ _ ⟨G0, W0, Same.refl _, ?_⟩
        rw [List.map_append, e]
        exact sameT s01 pl2.sqT
      · refine fin _ _ ⟨G0, W0, Same.refl _, ?_⟩
        rw [List.map_append, e2, List.append_nil]
        exact sameT s01 pl1.sqT
      · have e3 := W0.put (o := .tup (ps1.map V.ref ++ ps2.map V.ref)) hq
        refine fin _ _ ⟨_, e3.w, e3.sub, ?_⟩
        rw [List.map_append]
        exact SqT.of upd_same
    · rintro tt H1 ⟨G1, W1, s12, ttT⟩
      have s02 := s01.trans s12
      have g1 := s12 _ _ g0
      refine ⟨tt, rfl, ⟨_, sameT W1.same ttT⟩, for_tup (K := K) (a := tt) (xs := (ps1 ++ ps2).map V.ref) (fun i σ H' => ∃ (L : Addr) (vals : List Int) (G' : Hp) (o4 o5 o6 o7 o8 o9 o10 o11 o12 o13 : Option V), σ = [some (.ref p), some (.ref sa), some (.ref ha), some (.ref L), o4, o5, o6, o7, o8, o9, o10, o11, o12, o13] ∧ Wd p l G' H' ∧ Same G1 G' ∧ G' L = some (.lst (vals.map V.int)) ∧
          vals.length ≤ 2 * i ∧ ∀ kv ∈ (stK st ++ hpK hp).take i, ∀ n : Int, (kV kv.1 = .int n ∨ kv.2 = .int n) → 0 < n → n ∈ vals)
        ⟨L0, [], G1, _, _, _, _, _, _, _, _, _, _, rfl, W1, Same.refl _, g1, Nat.zero_le _, fun kv m => absurd m List.not_mem_nil⟩ (fun i σ H' _ ⟨_, _, _, _, _, _, _, _, _, _, _, _, _, _, w, s, _⟩ => sameT (s.trans w.same) ttT) ?_ ?_⟩
      · rintro i x σ H2 hx ⟨L, vals, G2, o4, o5, o6, o7, o8, o9, o10, o11, o12, o13, rfl, W2, s23, gL, lv, cov⟩
        rw [List.getElem?_map] at hx
        obtain ⟨t, ht, rfl⟩ := Option.map_eq_some_iff.mp hx
        obtain ⟨kv, hkv, tT⟩ := paired_getG prA ht
        obtain ⟨v, ev⟩ := vA kv (List.mem_of_getElem? hkv)
        obtain ⟨key, kv2⟩ := kv
        have ev : kv2 = .int v := ev
        subst ev
        have s03 := s02.trans s23
        have tT : SqT K G t [kV key, .int v] := tT
        refine ⟨t, _, rfl, sameT (s03.trans W2.same) tT, rfl, _, _, rfl, _, _, rfl, rfl, ?_⟩
        dsimp only [gName, List.set]
        refine ⟨_, rfl, _, rfl, _, rfl, by show 2 ≤ sizeLine; decide, fun t2 ht2 => ?_⟩
        have s2 := sameAdd (o := .tup [kV key, .int v]) ht2
        have T2 : (upd H2 t2 (.tup [kV key, .int v])) t2 = some (.tup [kV key, .int v]) := upd_same
        have hL2 := s2 _ _ (W2.same _ _ gL)
        have e2 := W2.still s2
        generalize upd H2 t2 (.tup [kV key, .int v]) = H3 at s2 T2 hL2 e2 ⊢
        refine ⟨t2, rfl, ⟨_, SqT.of T2⟩, fun D hD => lc_tup (K := K) (a := t2) (xs := [kV key, .int v]) (fun n H' => Same H3 H' ∧ H' D = some (.lst (([kV key, .int v].take n).filter (wantV vals)))) ⟨sameAdd hD, upd_same⟩ (fun n H' _ q => sameT q.1 (SqT.of T2)) ?_ ?_⟩
        · rintro n x H4 hxn ⟨q4, hD4⟩
          have et : ([kV key, .int v].take (n + 1)).filter (wantV vals) = ([kV key, .int v].take n).filter (wantV vals) ++ if wantV vals x = true then [x] else [] := by
            rw [List.take_add_one, hxn, Option.toList_some, List.filter_append, List.filter_cons, List.filter_nil]
          have no : ∀ {A B : Prop}, B → if false = true then A else B := fun h => h
          have skip : wantV vals x = false → Same H3 H4 ∧ H4 D = some (.lst (([kV key, .int v].take (n + 1)).filter (wantV vals))) := fun h => by
            rw [et, if_neg (by rw [h]; exact Bool.false_ne_true), List.append_nil]
            exact ⟨q4, hD4⟩
          have sx : (∃ z, x = .str z) ∨ ∃ m, x = .int m := by
            rcases List.mem_cons.mp (List.mem_of_getElem? hxn) with rfl | m
            · cases key with
              | inl i => exact .inr ⟨i, rfl⟩
              | inr z => exact .inl ⟨z, rfl⟩
            · exact .inr ⟨v, List.mem_singleton.mp m⟩
          rcases sx with ⟨z, rfl⟩ | ⟨m, rfl⟩
          · refine ⟨rfl, _, rfl, _, .str z, H4, Same.refl _, .str z, .inr ⟨rfl, _, rfl, ?_⟩⟩
            exact no (no (skip rfl))
          · refine ⟨rfl, _, rfl, _, .int m, H4, Same.refl _, .int m, .inr ⟨rfl, _, rfl, ?_⟩⟩
            refine iteB (c := true) (fun _ => ?_) (fun h => nomatch h)
            refine ⟨_, rfl, _, _, rfl, rfl, _, rfl, iteB (fun g1 => ?_) (fun g1 => no (skip ?_))⟩
            · refine ⟨_, rfl, _, rfl, L, _, rfl, .inl (SqL.of (q4 _ _ hL2)), rfl, flat_ints vals, _, rfl, ?_⟩
              show if (!inV (.int m) (vals.map V.int)) = true then _ else _
              rw [inV_int]
              have ew : wantV vals (.int m) = !decide (m ∈ vals) := by
                show (decide (0 < m) && !decide (m ∈ vals)) = _
                rw [g1]
                rfl
              refine iteB (fun g2 => ?_) (fun g2 => skip (by rw [ew]; exact g2))
              refine ⟨_, rfl, _, hD4, ?_, sameOut q4 hD, ?_⟩
              · have := List.length_filter_le (wantV vals) ([kV key, .int v].take n)
                have l3 := List.length_take_le n [kV key, .int v]
                have l4 : [kV key, V.int v].length = 2 := rfl
                rw [List.length_take] at this
                have : (([kV key, V.int v].take n).filter (wantV vals)).length ≤ 2 := by omega
                exact Nat.lt_of_le_of_lt this (by decide)
              · rw [upd_same, et, if_pos (by rw [ew]; exact g2)]
            · show (decide (0 < m) && !decide (m ∈ vals)) = false
              rw [g1]
              rfl
        · rintro H4 ⟨q4, hD4⟩
          obtain ⟨ns, en, ln, cn⟩ := want_ints (vals := vals) [kV key, .int v]
          have hD4 : H4 D = some (.lst (ns.map V.int)) := by
            rw [hD4, ← en]
            rfl
          have ln : ns.length ≤ 2 := ln
          have li := (List.getElem?_eq_some_iff.mp ht).1
          rw [List.length_append] at li
          refine ⟨L, D, _, _, rfl, rfl, q4 _ _ hL2, hD4, by rw [List.length_map, List.length_map]; omega, fun M hM => ?_⟩
          rw [← List.map_append]
          have e5 := (e2.w.still q4).w.put (o := .lst ((vals ++ ns).map V.int)) hM
          refine ⟨M, vals ++ ns, _, _, _, _, _, _, _, _, _, _, _, rfl, e5.w, s23.trans e5.sub, upd_same, by rw [List.length_append]; omega, fun kv m n hn n0 => ?_⟩
          rw [List.take_add_one, hkv, Option.toList_some] at m
          rcases List.mem_append.mp m with m | m
          · exact List.mem_append_left _ (cov kv m n hn n0)
          · rw [List.mem_singleton.mp m] at hn
            have : V.int n ∈ [kV key, .int v] := by
              rcases hn with h | h
              · rw [← h]
                exact List.mem_cons_self
              · rw [← h]
                exact List.mem_cons_of_mem _ List.mem_cons_self
            exact (cn n this n0).elim (List.mem_append_left _) (List.mem_append_right _)
      · rintro σ H2 ⟨L, vals, G2, o4, o5, o6, o7, o8, o9, o10, o11, o12, o13, rfl, W2, s23, gL, lv, cov⟩
        have lA : ((ps1 ++ ps2).map V.ref).length = st.length + hp.length := by rw [List.length_map, List.length_append, l1, l2]
        rw [lA] at lv cov
        have tk : (stK st ++ hpK hp).take (st.length + hp.length) = stK st ++ hpK hp := List.take_of_length_le (by
          unfold stK hpK
          rw [List.length_append, List.length_map, List.length_map]
          exact Nat.le_refl _)
        rw [tk] at cov
        have s02' := s02.trans s23
        have cst : ∀ c ∈ st, c.2 ∈ (0 : Int) :: vals := fun c m => by
          by_cases z : c.2 = 0
          · rw [z]
            exact List.mem_cons_self
          · have := s0 c m
            exact List.mem_cons_of_mem _ (cov (.inr c.1, .int c.2) (List.mem_append_left _ (List.mem_map.mpr ⟨c, m, rfl⟩)) c.2 (.inr rfl) (by omega))
        have chp : ∀ c ∈ hp, c.1 ∈ (0 : Int) :: vals ∧ c.2 ∈ (0 : Int) :: vals := fun c m => by
          have q := h0 c m
          have mm : ((.inl c.1 : Key), V.int c.2) ∈ stK st ++ hpK hp := List.mem_append_right _ (List.mem_map.mpr ⟨c, m, rfl⟩)
          refine ⟨?_, ?_⟩
          · by_cases z : c.1 = 0
            · rw [z]
              exact List.mem_cons_self
            · exact List.mem_cons_of_mem _ (cov _ mm c.1 (.inl rfl) (by omega))
          · by_cases z : c.2 = 0
            · rw [z]
              exact List.mem_cons_self
            · exact List.mem_cons_of_mem _ (cov _ mm c.2 (.inr rfl) (by omega))
        clear cov tk
        dsimp only [gName, List.set]
        have hL2 := W2.same _ _ gL
        have ln : (vals.map V.int).length = vals.length := List.length_map ..
        refine ⟨_, rfl, _, rfl, L, vals.map V.int, rfl, .inl (SqL.of hL2), _, rfl, by omega, by omega, fun D hD => lc_range (lo := 0) (n := (vals.map V.int).length) (fun i H' => Same H2 H' ∧ H' D = some (.lst ((frF i).map V.int))) ⟨sameAdd hD, upd_same⟩ ?_ ?_⟩
        · rintro i H3 hi ⟨q3, hD3⟩
          dsimp only [gName, List.set]
          refine ⟨rfl, _, rfl, _, _, rfl, rfl, .inl ⟨by decide, by decide⟩, _, _, rfl, rfl, _, hD3, by rw [List.length_map, frF_len]; omega, sameOut q3 hD, ?_⟩
          rw [upd_same, frF_succ, List.map_append, Int.zero_add]
          rfl
        · rintro H3 ⟨q3, hD3⟩
          rw [ln] at hD3
          refine ⟨10, 60, rfl, rfl, ⟨by decide, by decide, by decide⟩, _, _, rfl, rfl, 10, 40, rfl, rfl, ⟨by decide, by decide, by decide⟩, by show 2 ≤ sizeLine; decide, fun L1 h1 => ?_⟩
          have q4 := q3.trans (sameAdd (o := .lst [V.int (10 ^ (60 : Int).toNat + 1), .int (10 ^ (40 : Int).toNat)]) h1)
          have hD4 := sameAdd (o := .lst [V.int (10 ^ (60 : Int).toNat + 1), .int (10 ^ (40 : Int).toNat)]) h1 _ _ hD3
          refine ⟨D, L1, _, _, rfl, rfl, hD4, upd_same, by rw [List.length_map, frF_len]; show vals.length + 2 ≤ sizeLine; omega, fun L2 h2 => ?_⟩
          have em : (frF vals.length).map V.int ++ [V.int (10 ^ (60 : Int).toNat + 1), .int (10 ^ (40 : Int).toNat)] = (frF vals.length ++ [10 ^ 60 + 1, 10 ^ 40]).map V.int := by rw [List.map_append]; rfl
          rw [em]
          have e5 := W2.still (q4.trans (sameAdd (o := .lst ((frF vals.length ++ [10 ^ 60 + 1, 10 ^ 40]).map V.int)) h2))
          refine ⟨p, l, G2, L2, frF vals.length ++ [10 ^ 60 + 1, 10 ^ 40], rfl, e5.w, SqL.of upd_same, by rw [List.length_append, frF_len]; show vals.length + 2 ≤ 1000; omega, fun r ys G4 H4 e6 g6 pm => ?_⟩
          have lys : ys.length = vals.length + 2 := by rw [pm.length_eq, List.length_append, frF_len]; rfl
          have ndy : ((0 : Int) :: ys).Nodup := ((pm.cons 0).nodup_iff).mpr (fresh_nodup (by omega))
          have smy : ∀ y ∈ (0 : Int) :: ys, Sm y := fun y m => by
            have b1 : (100000 : Int) < ((2 ^ 400 : Nat) : Int) := by decide +kernel
            have b2 : (10 : Int) ^ 60 + 1 < ((2 ^ 400 : Nat) : Int) := by decide +kernel
            have b3 : (10 : Int) ^ 40 < 10 ^ 60 := by decide +kernel
            have b4 : (0 : Int) < 10 ^ 40 := by decide +kernel
            have yb : 0 ≤ y ∧ y < ((2 ^ 400 : Nat) : Int) := by
              rcases List.mem_cons.mp m with rfl | m
              · omega
              · rcases List.mem_append.mp (pm.mem_iff.mp m) with m | m
                · have := frF_mem m
                  omega
                · rcases List.mem_cons.mp m with m | m
                  · omega
                  · have := List.mem_singleton.mp m
                    omega
            exact sm_of (k := 400) (Int.ofNat_lt.mp (by rw [Int.natAbs_of_nonneg yb.1]; exact yb.2))
          have W4 := e6.w
          have s04 := s02'.trans e6.sub
          have hL4 := W4.same _ _ (e6.sub _ _ gL)
          have hr4 := W4.same _ _ g6
          clear e6 e5 q4 q3 hD4 hD3 h1 h2 hD g6 gL hL2 pm W2 s23 s02'
          dsimp only [gName, List.set]
          refine ⟨by show 1 ≤ sizeLine; decide, fun M1 m1 => ?_⟩
          have t1 := sameAdd (o := .lst [V.int 0]) m1
          refine ⟨_, rfl, M1, L, _, _, rfl, rfl, upd_same, t1 _ _ hL4, by rw [ln]; show 1 + vals.length ≤ sizeLine; omega, fun M2 m2 => ?_⟩
          have t2 := t1.trans (sameAdd (o := .lst ([V.int 0] ++ vals.map V.int)) m2)
          have g2 : (upd (upd H4 M1 (.lst [V.int 0])) M2 (.lst ([V.int 0] ++ vals.map V.int))) M2 = some (.lst (((0 : Int) :: vals).map V.int)) := upd_same
          generalize upd (upd H4 M1 (.lst [V.int 0])) M2 (.lst ([V.int 0] ++ vals.map V.int)) = H5 at t2 g2 ⊢
          refine ⟨by show 1 ≤ sizeLine; decide, fun M3 m3 => ?_⟩
          have t3 := t2.trans (sameAdd (o := .lst [V.int 0]) m3)
          have g3 := sameAdd (o := .lst [V.int 0]) m3 _ _ g2
          refine ⟨_, rfl, M3, r, _, _, rfl, rfl, upd_same, t3 _ _ hr4, by rw [List.length_map]; show 1 + ys.length ≤ sizeLine; omega, fun M4 m4 => ?_⟩
          have t4 := t3.trans (sameAdd (o := .lst ([V.int 0] ++ ys.map V.int)) m4)
          have g4 := sameAdd (o := .lst ([V.int 0] ++ ys.map V.int)) m4 _ _ g3
          refine ⟨M2, M4, (0 : Int) :: vals, (0 : Int) :: ys, rfl, SqL.of g4, SqL.of upd_same, by rw [List.length_cons, List.length_cons]; omega, fun d hd => ?_⟩
          have em2 := mergeK_fold (((0 : Int) :: vals).zip ((0 : Int) :: ys)) []
          have em2 : mergeK [] ((((0 : Int) :: vals).zip ((0 : Int) :: ys)).map fun q => ((.inl q.1 : Key), V.int q.2)) = hpK (foldH (((0 : Int) :: vals).zip ((0 : Int) :: ys)) []) := em2
          rw [em2]
          obtain ⟨n1, n2, n3, n4⟩ := names_fine (ns := (0 : Int) :: vals) (us := (0 : Int) :: ys) (by rw [List.length_cons, List.length_cons]; omega) ndy
          generalize foldH (((0 : Int) :: vals).zip ((0 : Int) :: ys)) [] = om at n1 n2 n3 n4 ⊢
          have t5 := t4.trans (sameAdd (o := .dK (hpK om)) hd)
          have gd : (upd (upd (upd H5 M3 (.lst [V.int 0])) M4 (.lst ([V.int 0] ++ ys.map V.int))) d (.dK (hpK om))) d = some (.dK (hpK om)) := upd_same
          have d4 := Same.none t4 hd
          generalize upd (upd (upd H5 M3 (.lst [V.int 0])) M4 (.lst ([V.int 0] ++ ys.map V.int))) d (.dK (hpK om)) = H6 at t5 gd ⊢
          clear hd m4 m3 m2 m1 g4 g3 g2 t4 t3 t2 t1 em2 em hL4 hr4 ndy lys
          have oin : ∀ {x : Int}, x ∈ (0 : Int) :: vals → x ∈ keysH om := fun h => n2 _ h
          have sG : Same G H6 := (s04.trans W4.same).trans t5
          dsimp only [gName, List.set]
          refine ⟨_, rfl, ha, rfl, ⟨_, sameT sG pl2.sqT⟩, fun D hD => lc_tup (K := K) (a := ha) (xs := ps2.map V.ref) (fun i H' => ∃ ts : List Addr, Same H6 H' ∧ H' D = some (.lst (ts.map V.ref)) ∧ ts.length ≤ i ∧ Paired (fun (t : Addr) (q : Key × V) => H' t = some (.tup [kV q.1, q.2])) ts (hpK ((hp.take i).map fun c => (mapH om c.1, mapH om c.2))) ∧ ∀ t ∈ ts, H6 t = none)
            ⟨[], sameAdd hD, upd_same, Nat.le_refl _, .nil, fun t m => absurd m List.not_mem_nil⟩ (fun i H' _ ⟨_, q, _⟩ => sameT (sG.trans q) pl2.sqT) ?_ ?_⟩
          · rintro i x H7 hx ⟨ts, q7, hD7, lt7, pr7, new7⟩
            rw [List.getElem?_map] at hx
            obtain ⟨t, ht, rfl⟩ := Option.map_eq_some_iff.mp hx
            obtain ⟨kv, hkv, tT⟩ := paired_getG pr2 ht
            have hkv : (hp.map fun c => ((.inl c.1 : Key), V.int c.2))[i]? = some kv := hkv
            rw [List.getElem?_map] at hkv
            obtain ⟨c, hc, rfl⟩ := Option.map_eq_some_iff.mp hkv
            have tT : SqT K G t [.int c.1, .int c.2] := tT
            obtain ⟨c1, c2⟩ := chp c (List.mem_of_getElem? hc)
            refine ⟨t, _, rfl, sameT (sG.trans q7) tT, rfl, _, _, rfl, _, _, rfl, rfl, ?_⟩
            refine ⟨rfl, _, rfl, _, rfl, d, _, rfl, get_hin (q7 _ _ gd) (oin c1), _, rfl, _, rfl, d, _, rfl, get_hin (q7 _ _ gd) (oin c2), by show 2 ≤ sizeLine; decide, fun t8 h8 => ?_⟩
            have q8 := sameAdd (o := .tup [V.int (mapH om c.1), .int (mapH om c.2)]) h8
            have hD8 := q8 _ _ hD7
            have nD8 : D ≠ t8 := ne_of_none hD7 h8
            have tD : ∀ t ∈ ts, ∃ o, H7 t = some o ∧ t ≠ D := fun t m => by
              obtain ⟨j, hj⟩ := List.mem_iff_getElem?.mp m
              obtain ⟨kv, _, e⟩ := paired_getG pr7 hj
              refine ⟨_, e, fun z => ?_⟩
              rw [z, hD7] at e
              cases e
            refine ⟨ts.map V.ref, hD8, by rw [List.length_map]; have := (List.getElem?_eq_some_iff.mp hc).1; omega, ts ++ [t8], sameOut (q7.trans q8) hD, by rw [upd_same, List.map_append]; rfl, by rw [List.length_append]; exact Nat.add_le_add_right lt7 1, ?_, fun t m => ?_⟩
            · rw [List.take_add_one, hc, Option.toList_some, List.map_append]
              show Paired _ (ts ++ [t8]) (hpK (_ ++ [(mapH om c.1, mapH om c.2)]))
              unfold hpK
              rw [List.map_append]
              refine paired_snoc (paired_mono (fun t m kv e => ?_) pr7) ?_
              · obtain ⟨o, _, nD⟩ := tD t m
                rw [upd_ne nD]
                exact q8 _ _ e
              · rw [upd_ne nD8.symm, upd_same]
                rfl
            · rcases List.mem_append.mp m with m | m
              · exact new7 t m
              · rw [List.mem_singleton.mp m]
                exact Same.none q7 h8
          · rintro H7 ⟨ts, q7, hD7, lt7, pr7, new7⟩
            have lp2 : (ps2.map V.ref).length = hp.length := by rw [List.length_map, l2]
            rw [lp2, List.take_length] at pr7
            refine ⟨D, ts.map V.ref, pairAt H7, rfl, SqL.of hD7, pairAt_ok pr7, fun zs so srt stb hso => ?_⟩
            have q8 := q7.trans (sameAdd (o := .lst zs) hso)
            refine ⟨so, zs, rfl, SqL.of upd_same, fun h' o po hh' => ?_⟩
            have q9 := q8.trans (sameAdd (o := .frz o (.tup zs)) hh')
            have g9 : (upd (upd H7 so (.lst zs)) h' (.frz o (.tup zs))) h' = some (.frz o (.tup zs)) := upd_same
            have new9 := Same.none q8 hh'
            have q79 : Same H7 (upd (upd H7 so (.lst zs)) h' (.frz o (.tup zs))) := (sameAdd hso).trans (sameAdd hh')
            generalize upd (upd H7 so (.lst zs)) h' (.frz o (.tup zs)) = H9 at q9 g9 q79 ⊢
            dsimp only [gName, List.set]
            refine ⟨_, rfl, sa, rfl, ⟨_, sameT (sG.trans q9) pl1.sqT⟩, fun D2 hD2 => lc_tup (K := K) (a := sa) (xs := ps1.map V.ref) (fun i H' => ∃ ts : List Addr, Same H9 H' ∧ H' D2 = some (.lst (ts.map V.ref)) ∧ ts.length ≤ i ∧ Paired (fun (t : Addr) (q : Key × V) => H' t = some (.tup [kV q.1, q.2])) ts (stK ((st.take i).map fun c => (c.1, mapH om c.2))) ∧ ∀ t ∈ ts, H9 t = none)
              ⟨[], sameAdd hD2, upd_same, Nat.le_refl _, .nil, fun t m => absurd m List.not_mem_nil⟩ (fun i H' _ ⟨_, q, _⟩ => sameT ((sG.trans q9).trans q) pl1.sqT) ?_ ?_⟩
            · rintro i x H10 hx ⟨us, q10, hD10, lt10, pr10, new10⟩
              rw [List.getElem?_map] at hx
              obtain ⟨t, ht, rfl⟩ := Option.map_eq_some_iff.mp hx
              obtain ⟨kv, hkv, tT⟩ := paired_getG pr1 ht
              have hkv : (st.map fun c => ((.inr c.1 : Key), V.int c.2))[i]? = some kv := hkv
              rw [List.getElem?_map] at hkv
              obtain ⟨c, hc, rfl⟩ := Option.map_eq_some_iff.mp hkv
              have tT : SqT K G t [.str c.1, .int c.2] := tT
              have c2 := cst c (List.mem_of_getElem? hc)
              refine ⟨t, _, rfl, sameT ((sG.trans q9).trans q10) tT, rfl, _, _, rfl, _, _, rfl, rfl, ?_⟩
              refine ⟨rfl, _, rfl, _, rfl, _, rfl, d, _, rfl, get_hin (q10 _ _ (q9 _ _ gd)) (oin c2), by show 2 ≤ sizeLine; decide, fun t8 h8 => ?_⟩
              have q8 := sameAdd (o := .tup [V.str c.1, .int (mapH om c.2)]) h8
              have hD8 := q8 _ _ hD10
              have nD8 : D2 ≠ t8 := ne_of_none hD10 h8
              have tD : ∀ t ∈ us, t ≠ D2 := fun t m => by
                obtain ⟨j, hj⟩ := List.mem_iff_getElem?.mp m
                obtain ⟨kv, _, e⟩ := paired_getG pr10 hj
                intro z
                rw [z, hD10] at e
                cases e
              refine ⟨us.map V.ref, hD8, by rw [List.length_map]; have := (List.getElem?_eq_some_iff.mp hc).1; omega, us ++ [t8], sameOut (q10.trans q8) hD2, by rw [upd_same, List.map_append]; rfl, by rw [List.length_append]; exact Nat.add_le_add_right lt10 1, ?_, fun t m => ?_⟩
              · rw [List.take_add_one, hc, Option.toList_some, List.map_append]
                show Paired _ (us ++ [t8]) (stK (_ ++ [(c.1, mapH om c.2)]))
                unfold stK
                rw [List.map_append]
                refine paired_snoc (paired_mono (fun t m kv e => ?_) pr10) ?_
                · rw [upd_ne (tD t m)]
                  exact q8 _ _ e
                · rw [upd_ne nD8.symm, upd_same]
                  rfl
              · rcases List.mem_append.mp m with m | m
                · exact new10 t m
                · rw [List.mem_singleton.mp m]
                  exact Same.none q10 h8
            · rintro H10 ⟨us, q10, hD10, lt10, pr10, new10⟩
              have lp1 : (ps1.map V.ref).length = st.length := by rw [List.length_map, l1]
              rw [lp1, List.take_length] at pr10
              refine ⟨D2, _, rfl, SqL.of hD10, fun s' o2 po2 hs' => ?_⟩
              have q11 := sameAdd (o := .frz o2 (.tup (us.map V.ref))) hs'
              refine ⟨_, rfl, _, rfl, by show 3 ≤ sizeLine; decide, fun q hq => ?_⟩
              have q12 := sameAdd (o := .tup [V.ref s', .ref h', .ref d]) hq
              have qE := (((t5.trans q9).trans q10).trans q11).trans q12
              obtain ⟨G12, e12, g12⟩ := W4.grow qE
              obtain ⟨qs, hp', rfl, pr2', pm2', sr2'⟩ := sorted_heap pr7 stb.perm srt
              have q4_10 : Same H4 H10 := (t5.trans q9).trans q10
              have ndp : (keysH hp').Nodup := by
                have p1 : (keysH hp').Perm (keysH (hp.map fun c => (mapH om c.1, mapH om c.2))) := pm2'.map fun c : Int × Int => c.1
                refine p1.nodup_iff.mpr ?_
                unfold keysH
                rw [List.map_map]
                have nd2 : hp.Pairwise fun a b => a.1 ≠ b.1 := List.pairwise_map.mp ndh
                refine List.pairwise_map.mpr (nd2.imp_of_mem fun {a b} ma mb ne e => ne ?_)
                exact n3 _ (oin (chp a ma).1) _ (oin (chp b mb).1) e
              have lhp : hp'.length = hp.length := by rw [pm2'.length_eq, List.length_map]
              refine k q s' h' d (st.map fun c => (c.1, mapH om c.2)) hp' om G12 _ e12.w (s04.trans e12.sub) (SqT.of upd_same) ⟨us, ⟨o2, po2, ?_⟩, ?_⟩ ⟨qs, ⟨o, po, ?_⟩, ?_⟩ ?_ ⟨n3, fun c m => ⟨oin (chp c m).1, oin (chp c m).2⟩, fun c m => oin (cst c m), ndh, ndp, pm2', rfl⟩ ⟨ndp, by omega⟩ ⟨by omega, fun c m => ?_⟩ sr2' ⟨?_, by rw [List.length_map]; omega⟩
              · rw [g12 _ (Same.none q4_10 hs')]
                exact q12 _ _ upd_same
              · refine paired_mono (fun t m kv e => SqT.of ?_) pr10
                rw [g12 _ (Same.none (t5.trans q9) (new10 t m))]
                exact q12 _ _ (q11 _ _ e)
              · rw [g12 _ (Same.none t5 new9)]
                exact q12 _ _ (q11 _ _ (q10 _ _ g9))
              · refine paired_mono (fun t mt kv e => SqT.of ?_) pr2'
                have mt2 : t ∈ ts := by
                  obtain ⟨t2, m2, e2⟩ := List.mem_map.mp (stb.perm.mem_iff.mp (List.mem_map_of_mem (f := V.ref) mt))
                  cases e2
                  exact m2
                rw [g12 _ (Same.none t5 (new7 t mt2))]
                exact q12 _ _ (q11 _ _ (q10 _ _ (q79 _ _ e)))
              · rw [g12 _ d4]
                exact q12 _ _ (q11 _ _ (q10 _ _ (q9 _ _ gd)))
              · obtain ⟨c0, m0, rfl⟩ := List.mem_map.mp (pm2'.mem_iff.mp m)
                exact ⟨smy _ (n4 _ (oin (chp c0 m0).1)), smy _ (n4 _ (oin (chp c0 m0).2))⟩
              · rw [List.map_map]
                exact oks.1
end
end L2.Hx

/-! Lost cells and joined clauses: lost cells are right. -/
namespace L2.Hx
open PySem PySem.Spec PyProof.Rows
theorem da_lost {K : PySem.W.Frag} {H : Hp} {l : Addr} {st : Sl} {hp : Hl} (h : H l = some (.tup ((lostL st hp).map V.int))) : Da K H (.ref l) (lostP st hp) := by
  rw [lostP_eq]
  exact .tup (SqT.of h) (da_ints _)
theorem zip_st {K : PySem.W.Frag} {H : Hp} : ∀ {ts : List Addr} {st : Sl}, Paired (fun (t : Addr) (q : Key × V) => SqT K H t [kV q.1, q.2]) ts (stK st) → ∀ q ∈ ts.zip st, SqT K H q.1 [.str q.2.1, .int q.2.2]
  | [], _, _, q, m => absurd m List.not_mem_nil
  | _ :: _, [], h, _, _ => by cases h
  | t :: ts, c :: st, h, q, m => by
    have h : Paired (fun (t : Addr) (q : Key × V) => SqT K H t [kV q.1, q.2]) (t :: ts) (((.inr c.1 : Key), V.int c.2) :: stK st) := h
    cases h with
    | cons h r =>
      rcases List.mem_cons.mp m with rfl | m
      · exact h
      · exact zip_st r q m
theorem st_perm {K : PySem.W.Frag} {H : Hp} {ts : List Addr} {st : Sl} {ys : List V} (pr : Paired (fun (t : Addr) (q : Key × V) => SqT K H t [kV q.1, q.2]) ts (stK st)) (pm : ys.Perm (ts.map V.ref)) :
    ∃ (ps : List Addr) (st2 : Sl), ys = ps.map V.ref ∧ Paired (fun (p : Addr) (kv : Key × V) => SqT K H p [kV kv.1, kv.2]) ps (stK st2) ∧ st2.Perm st := by
  have hl : ts.length = st.length := by
    have := paired_len pr
    unfold stK at this
    rw [List.length_map] at this
    exact this
  have e1 : (ts.zip st).map (·.1) = ts := List.map_fst_zip (Nat.le_of_eq hl)
  have e2 : (ts.zip st).map (·.2) = st := List.map_snd_zip (Nat.le_of_eq hl.symm)
  have e3 : ts.map V.ref = (ts.zip st).map fun q => V.ref q.1 := by
    conv => lhs; rw [← e1]
    rw [List.map_map]
    rfl
  obtain ⟨M, m1, m2⟩ := perm_map_inv pm _ e3
  refine ⟨M.map (·.1), M.map (·.2), by rw [m1, List.map_map]; rfl, ?_, ?_⟩
  · unfold stK
    rw [List.map_map]
    exact paired_map fun q m => zip_st pr q (m2.mem_iff.mp m)
  · have := m2.map (·.2)
    rw [e2] at this
    exact this
theorem storeN_okd {st : Sl} (hl : st.length ≤ 6) (hn : ∀ c ∈ st, Okd 0 100 (.str c.1)) (hs : ∀ c ∈ st, Sm c.2) : Okd 4 1000000 (storeD st) := by
  refine Okd.mono (k := 2) (n := 1000000) (Okd.tup (k := 1) (n := 3849) (m := 6) (fun z m => ?_) (by rw [List.length_map]; exact hl))
  obtain ⟨c, hc, rfl⟩ := List.mem_map.mp m
  refine Okd.tup (k := 0) (n := 1921) (m := 2) (fun z m => ?_) (Nat.le_refl 2)
  rcases List.mem_cons.mp m with rfl | m
  · exact (hn c hc).mono
  · rw [List.mem_singleton.mp m]
    exact ⟨decide_eq_true (hs c hc), Nat.zero_le _, Nat.le_refl _⟩
theorem two_okd {a b : PyData} (ha : Okd 4 5300000 a) (hb : Okd 4 5300000 b) : Okd 5 16000000 (.list [a, b]) := by
  refine Okd.list (k := 4) (n := 5300000) (m := 2) (fun z m => ?_) (Nat.le_refl 2) (by decide)
  rcases List.mem_cons.mp m with rfl | m
  · exact ha
  · rw [List.mem_singleton.mp m]
    exact hb
theorem sm_small {n b : Int} (h0 : 0 ≤ n) (h1 : n ≤ b) (hb : b ≤ 1000) : Sm n := sm_of (k := 100) (by
  have : ((n.natAbs : Nat) : Int) < ((2 ^ 100 : Nat) : Int) := by
    rw [Int.natAbs_of_nonneg h0]
    have : (1000 : Int) < ((2 ^ 100 : Nat) : Int) := by decide +kernel
    omega
  exact Int.ofNat_lt.mp this)
def spLostR (K : PySem.W.Frag) : Sp := fun vs H Q _ => ∃ (p l : Addr) (G : Hp) (s h : Addr) (b : Bool) (st : Sl) (hp : Hl), vs = [.ref p, .ref s, .ref h, .bl b] ∧ Wd p l G H ∧ PrT K G s (stK st) ∧ PrT K G h (hpK hp) ∧ (st.map (·.1)).Nodup ∧ st.length ≤ 5 ∧ ¬ ("w" : Str) ∈ st.map (·.1) ∧ (∀ c ∈ st, Okd 0 100 (.str c.1)) ∧
  (∀ c ∈ st, 0 ≤ c.2 ∧ c.2 ≤ 20) ∧ (keysH hp).Pairwise (· < ·) ∧ hp.length ≤ 10 ∧ (∀ c ∈ hp, (1 ≤ c.1 ∧ c.1 ≤ 10) ∧ 0 ≤ c.2 ∧ c.2 ≤ 12) ∧ ∀ G' H', Wd p l G' H' → Same G G' → Q (.bl true) H'
section
variable {P : Program} {w : World} {K : PySem.W.Frag} {mg : Str → Option Value} {base : Heap}
theorem D_l_is_lost_right (T : Txt K mg) : Df P w K mg base 4 "_law_is_lost_right" ["deck", "store", "heap", "is_named"] (spLostR K) := by
  have D_l_draw := D_draw (P := P) (w := w) (base := base) T
  have D_l_pick := D_pickT (P := P) (w := w) (base := base) T
  have D_l_due := D_l_due (P := P) (w := w) (base := base) T
  have D_l_called := D_l_called (P := P) (w := w) (base := base) T
  have D_lost := (DS_lost (P := P) (w := w) (base := base) T).df
  have DK_lost := (DS_lost (P := P) (w := w) (base := base) T).kw (ks := ["heap", "store"]) (g := swap2) fun _ _ _ _ _ _ ws hl => match ws, hl with | [_, _], _ => rfl
  obtain ⟨f, fd, S⟩ := T.d_l_is_lost_right
  refine Df.mk' (k := 3) S sc_l_is_lost_right (fun vs H Q E h => ?_) (fun cdv A outer s H vs Q E hgd hr h => ?_)
  · obtain ⟨p, l, G, s, h, b, st, hp, rfl, _⟩ := h
    rfl
  · obtain ⟨p, l, G, sa, ha, b, st, hp, rfl, W, pS, pH, nds, lst, nw, okn, sb, asc, lh, hb, k⟩ := h
    have hu := hu_of hr
    have big : (2000 : Nat) ≤ sizeLine := by decide
    have oks : StOk st := ⟨nds, by omega⟩
    have ndh : (keysH hp).Nodup := asc.imp fun h => Int.ne_of_lt h
    have okh : HpOk hp := ⟨ndh, by omega⟩
    have smh : HpSm hp := ⟨by omega, fun c m => ⟨sm_small (by have := hb c m; omega) (hb c m).1.2 (by decide), sm_small (hb c m).2.1 (hb c m).2.2 (by decide)⟩⟩
    have okK := two_okd (Okd.mono (k := 4) (n := 1000000) (storeN_okd (by omega) okn fun c m => sm_small (sb c m).1 (sb c m).2 (by decide))) (heapD_okd0 smh).mono
    obtain ⟨s1, s2, s3⟩ := okK.shown (by decide) (by decide)
    obtain ⟨r1, r2, r3⟩ := (lostP_okd (st := st) smh).shown (by decide) (by decide)
    refine ⟨_, (pss_cons (ps_asg (pe_tup (pa_cons (pe_callB (call_repr hgd hr.units) (by rfl) T.b_repr (by decide +kernel) (pa_cons (pe_lst (pa_cons (pv 1) (pa_cons (pv 2) pa_nil))) pa_nil)) (pa_cons (pe_d D_l_due hgd hr (pa_cons (pv 1) (pa_cons (pv 2) pa_nil))) pa_nil))) (pg_tup rfl (pgs_cons (pg_name (i := 4) sc_l_is_lost_right.nd rfl (.inl rfl)) (pgs_cons (pg_name (i := 5) sc_l_is_lost_right.nd rfl (.inr rfl)) pgs_nil))))
      (pss_cons (ps_set (i := 6) sc_l_is_lost_right.nd rfl (.inl rfl) (pe_ifExp (pt_val (pv 3)) (pe_kwg (g := swap2) DK_lost hgd hr (pk_cons (pv 2) (pk_cons (pv 1) pk_nil)) swap2_rel) (pe_d D_lost hgd hr (pa_cons (pv 1) (pa_cons (pv 2) pa_nil)))))
      (pss_cons (ps_if (PW.pt (pw_or (pt_cmpR op_ne (pe_callB (call_repr hgd hr.units) (by rfl) T.b_repr (by decide +kernel) (pa_cons (pv 6) pa_nil)) (pe_callB (call_repr hgd hr.units) (by rfl) T.b_repr (by decide +kernel) (pa_cons (pv 5) pa_nil)) (nomark _)) (pw_or (pt_cmpR op_ne (pe_callB (call_repr hgd hr.units) (by rfl) T.b_repr (by decide +kernel) (pa_cons (pe_d D_lost hgd hr (pa_cons (pv 1) (pa_cons (pv 2) pa_nil))) pa_nil)) (pe_callB (call_repr hgd hr.units) (by rfl) T.b_repr (by decide +kernel) (pa_cons (pv 5) pa_nil)) (nomark _)) (pw_or1 (pt_cmpR op_ne (pe_callB (call_repr hgd hr.units) (by rfl) T.b_repr (by decide +kernel) (pa_cons (pe_lst (pa_cons (pv 1) (pa_cons (pv 2) pa_nil))) pa_nil)) (pv 4) (nomark _)))))) (pss_one (ps_ret pe_bl)) pss_nil)
      (pss_cons (ps_asg (pe_d D_l_called hgd hr (pa_cons (pv 0) (pa_cons (pv 1) (pa_cons (pv 2) pa_nil)))) (pg_tup rfl (pgs_cons (pg_name (i := 7) sc_l_is_lost_right.nd rfl (.inl rfl)) (pgs_cons (pg_name (i := 8) sc_l_is_lost_right.nd rfl (.inl rfl)) (pgs_cons (pg_name (i := 9) sc_l_is_lost_right.nd rfl (.inr rfl)) pgs_nil)))))
      (pss_cons (ps_if (pt_cmpR op_ne (pe_callB (call_repr hgd hr.units) (by rfl) T.b_repr (by decide +kernel) (pa_cons (pe_d D_lost hgd hr (pa_cons (pv 7) (pa_cons (pv 8) pa_nil))) pa_nil)) (pe_callB (call_repr hgd hr.units) (by rfl) T.b_repr (by decide +kernel) (pa_cons (pe_callTy call_tuple_of (by rfl) T.b_tuple (by decide +kernel) (pa_cons (pe_callB cr_sortedI (by rfl) T.b_sorted (by decide +kernel) (pa_cons (pe_lc (own := [("at", 10)]) (g := gName 10) (tt := tYes) (te := tDGet (tVar 9) (tVar 10)) rfl sc_l_is_lost_right.nd (pi_tup (pv 5)) (blkOk_by (own := [("at", 10)]) (N := ["deck", "store", "heap", "is_named", "known", "due", "heard", "named", "cells", "other", "at", "wider", "gone", "left", "cell"]) (sc := defScope s_l_is_lost_right) (by decide +kernel)) (fun _ _ _ _ _ => pg_name (i := 10) sc_l_is_lost_right.nd rfl (.inl rfl)) (fun _ _ _ _ _ => pts_nil) (fun _ _ _ _ _ => (pe_dget hu (pv 9) (pv 10) (fun _ _ => rfl)))) pa_nil)) pa_nil)) pa_nil)) (nomark _)) (pss_one (ps_ret pe_bl)) pss_nil)
      (pss_cons (ps_set (i := 11) sc_l_is_lost_right.nd rfl (.inl rfl) (pe_callTy call_tuple_ofP (by rfl) T.b_tuple (by decide +kernel) (pa_cons (pe_callB cr_sortedSP (by rfl) T.b_sorted (by decide +kernel) (pa_cons (pe_op op_cat (pe_callTy call_list_of (by rfl) T.b_list (by decide +kernel) (pa_cons (pv 1) pa_nil)) (pe_lst (pa_cons (pe_tup (pa_cons pe_str (pa_cons (pe_d D_l_draw hgd hr (pa_cons (pv 0) (pa_cons pe_int pa_nil))) pa_nil))) pa_nil))) pa_nil)) pa_nil)))
      (pss_cons (ps_if (pt_cmpR (op_neD hr.units) (pe_lc (own := [("at", 10)]) (g := gName 10) (tt := tTest (tOp (rIn K true) (tVar 10) (tVar 5))) (te := tVar 10) rfl sc_l_is_lost_right.nd (pi_tup (pe_d D_l_due hgd hr (pa_cons (pv 11) (pa_cons (pv 2) pa_nil)))) (blkOk_by (own := [("at", 10)]) (N := ["deck", "store", "heap", "is_named", "known", "due", "heard", "named", "cells", "other", "at", "wider", "gone", "left", "cell"]) (sc := defScope s_l_is_lost_right) (by decide +kernel)) (fun _ _ _ _ _ => pg_name (i := 10) sc_l_is_lost_right.nd rfl (.inl rfl)) (fun _ _ _ _ _ => (pts_one (pt_cmpR op_notIn_seq (pv 10) (pv 5) (by rfl)))) (fun _ _ _ _ _ => (pv 10))) (pe_lst pa_nil) (nomark _)) (pss_one (ps_ret pe_bl)) pss_nil)
      (pss_cons (ps_if (pt_cmpR op_ne (pe_callB (call_repr hgd hr.units) (by rfl) T.b_repr (by decide +kernel) (pa_cons (pe_d D_lost hgd hr (pa_cons (pv 11) (pa_cons (pv 2) pa_nil))) pa_nil)) (pe_callB (call_repr hgd hr.units) (by rfl) T.b_repr (by decide +kernel) (pa_cons (pe_d D_l_due hgd hr (pa_cons (pv 11) (pa_cons (pv 2) pa_nil))) pa_nil)) (nomark _)) (pss_one (ps_ret pe_bl)) pss_nil)
      (pss_cons (ps_if (pt_cmpR (op_eqNil hr.units) (pv 5) (pe_tup pa_nil) (nomark _)) (pss_one (ps_ret pe_bl)) pss_nil)
      (pss_cons (ps_set (i := 12) sc_l_is_lost_right.nd rfl (.inr rfl) (pe_d D_l_pick hgd hr (pa_cons (pv 0) (pa_cons (pv 5) pa_nil))))
      (pss_cons (ps_set (i := 13) sc_l_is_lost_right.nd rfl (.inl rfl) (pe_callTy call_tuple_ofP (by rfl) T.b_tuple (by decide +kernel) (pa_cons (pe_lc (own := [("cell", 14)]) (g := gName 14) (tt := tTest (tOp rNe (tOp (rIxT K) (tVar 14) (tC (.int 0))) (tVar 12))) (te := tVar 14) rfl sc_l_is_lost_right.nd (pi_tup (pv 2)) (blkOk_by (own := [("cell", 14)]) (N := ["deck", "store", "heap", "is_named", "known", "due", "heard", "named", "cells", "other", "at", "wider", "gone", "left", "cell"]) (sc := defScope s_l_is_lost_right) (by decide +kernel)) (fun _ _ _ _ _ => pg_name (i := 14) sc_l_is_lost_right.nd rfl (.inl rfl)) (fun _ _ _ _ _ => (pts_one (pt_cmpR op_ne (pe_ix ix_tup (pv 14) pe_int (fun _ _ => rfl)) (pv 12) (nomark _)))) (fun _ _ _ _ _ => (pv 14))) pa_nil)))
      (pss_one (ps_ret (pe_cmpR op_eq (pe_callB (call_repr hgd hr.units) (by rfl) T.b_repr (by decide +kernel) (pa_cons (pe_d D_lost hgd hr (pa_cons (pv 1) (pa_cons (pv 13) pa_nil))) pa_nil)) (pe_callB (call_repr hgd hr.units) (by rfl) T.b_repr (by decide +kernel) (pa_cons (pe_callTy call_tuple_of (by rfl) T.b_tuple (by decide +kernel) (pa_cons (pe_lc (own := [("at", 10)]) (g := gName 10) (tt := tTest (tOp rNe (tVar 10) (tVar 12))) (te := tVar 10) rfl sc_l_is_lost_right.nd (pi_tup (pv 5)) (blkOk_by (own := [("at", 10)]) (N := ["deck", "store", "heap", "is_named", "known", "due", "heard", "named", "cells", "other", "at", "wider", "gone", "left", "cell"]) (sc := defScope s_l_is_lost_right) (by decide +kernel)) (fun _ _ _ _ _ => pg_name (i := 10) sc_l_is_lost_right.nd rfl (.inl rfl)) (fun _ _ _ _ _ => (pts_one (pt_cmpR op_ne (pv 10) (pv 12) (nomark _)))) (fun _ _ _ _ _ => (pv 10))) pa_nil)) pa_nil)) (nomark _))))))))))))))), ?_⟩
    have daK : ∀ {G' : Hp} {q : Addr}, Same G G' → G' q = none → Da K (upd G' q (.lst [.ref sa, .ref ha])) (.ref q) (.list [storeD st, heapD hp]) := fun {G' q} sm hq => by
      have sq := sm.trans (sameAdd (o := .lst [.ref sa, .ref ha]) hq)
      exact .lst upd_same (.cons (da_store (pS.same sq)) (.cons (da_heap (pH.same sq)) .nil))
    refine ⟨_, rfl, _, rfl, by show 2 ≤ sizeLine; decide, fun q hq => ?_⟩
    refine ⟨.ref q, _, _, rfl, Same.refl _, daK W.same hq, s1, s2, s3, ?_⟩
    have q1 : Same H (upd H q (.lst [.ref sa, .ref ha])) := sameAdd hq
    generalize upd H q (.lst [.ref sa, .ref ha]) = H1 at q1 ⊢
    refine ⟨_, rfl, _, rfl, sa, ha, st, hp, rfl, pS.same (W.same.trans q1), pH.same (W.same.trans q1), oks, okh, fun du H2 q2 n2 d2 => ?_⟩
    have q02 := q1.trans q2
    refine ⟨by show 2 ≤ sizeLine; decide, fun t ht => ⟨t, _, rfl, SqT.of upd_same, rfl, _, _, rfl, _, _, rfl, rfl, ?_⟩⟩
    have s3' := sameAdd (o := .tup [V.str (PyData.shown (.list [storeD st, heapD hp])), .ref du]) ht
    have q03 := q02.trans s3'
    have d3 := s3' _ _ d2
    have n0 := Same.none q1 n2
    generalize upd H2 t (.tup [V.str (PyData.shown (.list [storeD st, heapD hp])), .ref du]) = H3 at q03 d3 ⊢
    clear s3' q02 q2 q1 n2 d2 hq ht
    dsimp only [gName, List.set]
    obtain ⟨G3, e3, g3⟩ := W.grow q03
    have du3 : G3 du = some (.tup ((lostL st hp).map V.int)) := by
      rw [g3 _ n0]
      exact d3
    have W3 := e3.w
    have s03 := e3.sub
    clear e3 g3 q03 d3 n0
    refine asg_by (I := fun u H' => Same H3 H' ∧ Da K H' u (lostP st hp)) (fun Qn fin => ?_) ?_
    · refine ⟨_, rfl, b, rfl, iteB (fun _ => ?_) (fun _ => ?_)⟩
      · refine ⟨_, rfl, _, rfl, rfl, sa, ha, st, hp, rfl, pS.same (s03.trans W3.same), pH.same (s03.trans W3.same), oks, okh, fun u H4 q4 d4 => fin u H4 ⟨q4, d4⟩⟩
      · refine ⟨_, rfl, _, rfl, sa, ha, st, hp, rfl, pS.same (s03.trans W3.same), pH.same (s03.trans W3.same), oks, okh, fun u H4 q4 d4 => fin u H4 ⟨q4, d4⟩⟩
    · rintro u H4 ⟨q4, d4⟩
      dsimp only [gName, List.set]
      have W4 := (W3.still q4).w
      have no : ∀ {A B : Prop}, B → if false = true then A else B := fun h => h
      refine ⟨_, rfl, u, _, H4, rfl, Same.refl _, d4, r1, r2, r3, ?_⟩
      refine ⟨_, rfl, .ref du, _, H4, rfl, Same.refl _, da_lost (W4.same _ _ du3), r1, r2, r3, rfl, _, rfl, ?_⟩
      rw [str_same]
      refine no ?_
      refine ⟨_, rfl, _, rfl, sa, ha, st, hp, rfl, pS.same (s03.trans W4.same), pH.same (s03.trans W4.same), oks, okh, fun u2 H5 q5 d5 => ?_⟩
      have W5 := (W4.still q5).w
      refine ⟨u2, _, H5, rfl, Same.refl _, d5, r1, r2, r3, ?_⟩
      refine ⟨_, rfl, .ref du, _, H5, rfl, Same.refl _, da_lost (W5.same _ _ du3), r1, r2, r3, rfl, _, rfl, ?_⟩
      rw [str_same]
      refine no ?_
      refine ⟨_, rfl, _, rfl, by show 2 ≤ sizeLine; decide, fun q hq => ?_⟩
      refine ⟨.ref q, _, _, rfl, Same.refl _, daK (s03.trans W5.same) hq, s1, s2, s3, _, rfl, rfl, _, rfl, ?_⟩
      rw [str_same]
      refine no ?_
      have W6 := (W5.still (sameAdd (o := .lst [.ref sa, .ref ha]) hq)).w
      generalize upd H5 q (.lst [.ref sa, .ref ha]) = H6 at W6 ⊢
      clear hq q5 d5 q4 d4 W5 W4 W3
      dsimp only
      refine ⟨_, rfl, _, rfl, _, rfl, p, l, G3, sa, ha, st, hp, rfl, W6, pS.same s03, pH.same s03, oks, by omega, ndh, lh, fun c m => (sb c m).1, fun c m => ⟨by have := hb c m; omega, (hb c m).2.1⟩, fun q s' h' d st' hp' om G4 H7 W7 s34 qT pS' pH' gd R ok' sm' srt' oks' => ?_⟩
      refine ⟨q, _, rfl, qT, rfl, _, _, rfl, _, _, rfl, _, _, rfl, rfl, ?_⟩
      dsimp only [gName, List.set]
      have s04 := s03.trans s34
      have du4 := s34 _ _ du3
      obtain ⟨r1', r2', r3'⟩ := (lostP_okd (st := st') sm').shown (by decide) (by decide)
      refine ⟨_, rfl, _, rfl, s', h', st', hp', rfl, pS'.same W7.same, pH'.same W7.same, oks', ok', fun u5 H8 q8 d8 => ?_⟩
      refine ⟨u5, _, H8, rfl, Same.refl _, d8, r1', r2', r3', ?_⟩
      have du8 := (W7.same.trans q8) _ _ du4
      have d9 := (W7.same.trans q8) _ _ gd
      have len1 : (lostL st hp).length ≤ 10 := by
        have := (lost_sub st hp).length_le
        unfold keysH at this
        rw [List.length_map] at this
        omega
      refine ⟨_, rfl, du, rfl, ⟨_, SqT.of du8⟩, fun D hD => lc_tup (K := K) (a := du) (xs := (lostL st hp).map V.int) (fun i H' => Same H8 H' ∧ H' D = some (.lst ((((lostL st hp).take i).map (mapH om)).map V.int))) ⟨sameAdd hD, upd_same⟩ (fun i H' _ q => SqT.of (q.1 _ _ du8)) ?_ ?_⟩
      · rintro i x H9 hx ⟨q9, hD9⟩
        rw [List.getElem?_map] at hx
        obtain ⟨n, hn, rfl⟩ := Option.map_eq_some_iff.mp hx
        have kn := (R.key (mem_lost.mp (List.mem_of_getElem? hn)).1).2.2.1
        refine ⟨rfl, _, rfl, _, rfl, d, _, rfl, get_hin (q9 _ _ d9) kn, _, hD9, ?_, sameOut q9 hD, ?_⟩
        · rw [List.length_map, List.length_map, List.length_take]
          omega
        · rw [upd_same, List.take_add_one, hn, Option.toList_some, List.map_append, List.map_append]
          rfl
      · rintro H9 ⟨q9, hD9⟩
        rw [List.length_map, List.take_length] at hD9
        refine ⟨D, (lostL st hp).map (mapH om), rfl, SqL.of hD9, fun ns' so pm rise hso => ?_⟩
        have q10 := q9.trans (sameAdd (o := .lst (ns'.map V.int)) hso)
        have en : lostL st' hp' = ns' := asc_uniq ((srtH_keys srt' ok'.1).sublist (lost_sub st' hp')) rise (R.lost.trans pm.symm)
        refine ⟨so, ns'.map V.int, rfl, .inl ⟨SqL.of upd_same, fun t ht => ?_⟩⟩
        rw [← en] at ht ⊢
        have s11 := sameAdd (o := .tup ((lostL st' hp').map V.int)) ht
        have W8 := (W7.still q8).w
        rw [← en] at q10
        have W10 := (W8.still (q10.trans s11)).w
        refine ⟨.ref t, _, _, rfl, Same.refl _, da_lost upd_same, r1', r2', r3', rfl, _, rfl, ?_⟩
        rw [str_same]
        refine no ?_
        generalize upd (upd H9 so (.lst ((lostL st' hp').map V.int))) t (.tup ((lostL st' hp').map V.int)) = H10 at W10 ⊢
        clear s11 q10 pm rise hso hD9 q9 hD q8 d8 du8 d9 W8 ht
        dsimp only
        obtain ⟨ps, pl, pr⟩ := pS
        have lps : ps.length = st.length := by
          have := paired_len pr
          unfold stK at this
          rw [List.length_map] at this
          exact this
        refine ⟨_, rfl, sa, ps.map V.ref, rfl, .inr (sameT (s04.trans W10.same) pl.sqT), fun L hL => ?_⟩
        have eL := W10.tmp (o := .lst (ps.map V.ref)) hL
        have nLp := W10.np hL
        have nLl := W10.nl hL
        have gL : (upd H10 L (.lst (ps.map V.ref))) L = some (.lst (ps.map V.ref)) := upd_same
        refine ⟨_, rfl, p, l, G4, 12, rfl, by decide, by decide, eL.w, fun dw H11 w0 w1 e11 => ?_⟩
        have gL11 := e11.keep _ _ nLp nLl gL
        refine ⟨by show 2 ≤ sizeLine; decide, fun tw htw => ?_⟩
        have q12 := sameAdd (o := .tup [V.str "w", .int dw]) htw
        have g12 : (upd H11 tw (.tup [V.str "w", .int dw])) tw = some (.tup [V.str "w", .int dw]) := upd_same
        refine ⟨by show 1 ≤ sizeLine; decide, fun L2 hL2 => ?_⟩
        have q13 := q12.trans (sameAdd (o := .lst [V.ref tw]) hL2)
        refine ⟨L, L2, _, _, rfl, rfl, q13 _ _ gL11, upd_same, by rw [List.length_map]; show ps.length + 1 ≤ sizeLine; omega, fun C hC => ?_⟩
        have em : ps.map V.ref ++ [V.ref tw] = (ps ++ [tw]).map V.ref := by rw [List.map_append]; rfl
        rw [em]
        have q14 := q13.trans (sameAdd (o := .lst ((ps ++ [tw]).map V.ref)) hC)
        have g14 := ((sameAdd (o := .lst [V.ref tw]) hL2).trans (sameAdd (o := .lst ((ps ++ [tw]).map V.ref)) hC)) _ _ g12
        have C14 : (upd (upd (upd H11 tw (.tup [V.str "w", .int dw])) L2 (.lst [V.ref tw])) C (.lst ((ps ++ [tw]).map V.ref))) C = some (.lst ((ps ++ [tw]).map V.ref)) := upd_same
        generalize upd (upd (upd H11 tw (.tup [V.str "w", .int dw])) L2 (.lst [V.ref tw])) C (.lst ((ps ++ [tw]).map V.ref)) = H14 at q14 g14 C14 ⊢
        obtain ⟨G14, e14, gg⟩ := e11.w.grow q14
        have s14 := s04.trans e14.sub
        have pr14 : Paired (fun (t : Addr) (kv : Key × V) => SqT K G14 t [kV kv.1, kv.2]) (ps ++ [tw]) (stK (st ++ [(("w" : Str), dw)])) := by
          have e : stK (st ++ [(("w" : Str), dw)]) = stK st ++ [((.inr "w" : Key), V.int dw)] := List.map_append
          rw [e]
          exact paired_snoc (paired_mono (fun _ _ _ q => sameT s14 q) pr) (SqT.of (by rw [gg _ htw]; exact g14))
        refine ⟨C, (ps ++ [tw]).map V.ref, rfl, SqL.of C14, fun x m => ?_, fun ys so2 pm2 hso2 => ?_⟩
        · obtain ⟨t, mt, rfl⟩ := List.mem_map.mp m
          obtain ⟨j, hj⟩ := List.mem_iff_getElem?.mp mt
          obtain ⟨kv, hkv, e⟩ := paired_getG pr14 hj
          have hkv : ((st ++ [(("w" : Str), dw)]).map fun c => ((.inr c.1 : Key), V.int c.2))[j]? = some kv := hkv
          rw [List.getElem?_map] at hkv
          obtain ⟨c, _, rfl⟩ := Option.map_eq_some_iff.mp hkv
          exact ⟨t, c.1, c.2, rfl, sameT e14.w.same e⟩
        · obtain ⟨qs, st2, rfl, pr2, pm3⟩ := st_perm pr14 pm2
          have e15 := e14.w.tmp (o := .lst (qs.map V.ref)) hso2
          refine ⟨so2, qs.map V.ref, rfl, SqL.of upd_same, fun wd o po hwd => ?_⟩
          have e16 := e15.w.put (o := .frz o (.tup (qs.map V.ref))) hwd
          have pW : PrT K (upd G14 wd (.frz o (.tup (qs.map V.ref)))) wd (stK st2) := ⟨qs, ⟨o, po, upd_same⟩, paired_mono (fun _ _ _ q => sameT e16.sub q) pr2⟩
          have W16 := e16.w
          have s16 := s14.trans e16.sub
          have du16 := e16.sub _ _ (e14.sub _ _ du4)
          have sub2 : ∀ c ∈ st, c ∈ st2 := fun c m => pm3.mem_iff.mpr (List.mem_append_left _ m)
          have oks2 : StOk st2 := by
            have pn : (st2.map (·.1)).Perm (st.map (·.1) ++ [("w" : Str)]) := by
              have h := pm3.map (fun c : Str × Int => c.1)
              rw [List.map_append] at h
              exact h
            refine ⟨pn.nodup_iff.mpr (List.nodup_append.mpr ⟨nds, by simp, fun a ha b hb e => ?_⟩), ?_⟩
            · rw [List.mem_singleton.mp hb] at e
              rw [e] at ha
              exact nw ha
            · rw [pm3.length_eq, List.length_append]
              show st.length + 1 ≤ 1000
              omega
          clear e16 e15 pr2 pm3 pr14 pm2 hso2 hwd C14 g14 q14 q13 g12 q12 gL11 htw hL2 hC e14 gg e11 eL gL hL em s14 W10
          generalize upd G14 wd (.frz o (.tup (qs.map V.ref))) = G16 at pW W16 s16 du16
          generalize upd (upd H14 so2 (.lst (qs.map V.ref))) wd (.frz o (.tup (qs.map V.ref))) = H16 at W16 ⊢
          have pS : PrT K G sa (stK st) := ⟨ps, pl, pr⟩
          dsimp only [gName, List.set]
          -- (7)
          refine ⟨_, rfl, _, rfl, wd, ha, st2, hp, rfl, pW.same W16.same, pH.same (s16.trans W16.same), oks2, okh, fun l2 H17 q17 n17 d17 => ?_⟩
          refine ⟨l2, rfl, ⟨_, SqT.of d17⟩, fun D hD => lc_tup (K := K) (a := l2) (xs := (lostL st2 hp).map V.int) (fun i H' => Same H17 H' ∧ H' D = some (.lst [])) ⟨sameAdd hD, upd_same⟩ (fun i H' _ q => SqT.of (q.1 _ _ d17)) ?_ ?_⟩
          · rintro i x H18 hx ⟨q18, hD18⟩
            rw [List.getElem?_map] at hx
            obtain ⟨n, hn, rfl⟩ := Option.map_eq_some_iff.mp hx
            have mn := lost_more sub2 n (List.mem_of_getElem? hn)
            refine ⟨rfl, _, rfl, _, rfl, du, _, rfl, .inr (SqT.of (q18 _ _ (q17 _ _ (W16.same _ _ du16)))), rfl, flat_ints _, _, rfl, ?_⟩
            show if (!inV (.int n) ((lostL st hp).map V.int)) = true then _ else _
            rw [inV_int, decide_eq_true mn]
            exact no ⟨q18, hD18⟩
          · rintro H18 ⟨q18, hD18⟩
            refine ⟨Nat.zero_le _, fun t ht => ?_⟩
            have s19 := sameAdd (o := .lst []) ht
            refine ⟨.list [], .list [], .lst (SqL.of (s19 _ _ hD18)) .nil, .lst (SqL.of upd_same) .nil, shaped_ints [], shaped_ints [], _, rfl, ?_⟩
            have ee : PyData.eqv (.list ([] : List PyData)) (.list []) = true := by simp [PyData.eqv, PyData.eqvAll]
            rw [ee]
            refine no ?_
            have W19 := (W16.still ((q17.trans q18).trans s19)).w
            generalize upd H18 t (.lst []) = H19 at W19 ⊢
            clear s19 ht hD18 q18 hD d17 n17 q17 W16
            dsimp only
            -- (8)
            refine ⟨_, rfl, _, rfl, wd, ha, st2, hp, rfl, pW.same W19.same, pH.same (s16.trans W19.same), oks2, okh, fun u8 H20 q20 d20 => ?_⟩
            obtain ⟨z1, z2, z3⟩ := (lostP_okd (st := st2) smh).shown (by decide) (by decide)
            refine ⟨u8, _, H20, rfl, Same.refl _, d20, z1, z2, z3, ?_⟩
            refine ⟨_, rfl, _, rfl, wd, ha, st2, hp, rfl, pW.same (W19.same.trans q20), pH.same ((s16.trans W19.same).trans q20), oks2, okh, fun l3 H21 q21 n21 d21 => ?_⟩
            refine ⟨.ref l3, _, H21, rfl, Same.refl _, da_lost d21, z1, z2, z3, rfl, _, rfl, ?_⟩
            rw [str_same]
            refine no ?_
            have W21 := (W19.still (q20.trans q21)).w
            clear d21 n21 q21 d20 q20 W19
            dsimp only
            -- (9)
            refine ⟨_, rfl, Nat.zero_le _, fun t ht => ?_⟩
            have s22 := sameAdd (o := .tup []) ht
            have W22 := (W21.still s22).w
            refine ⟨du, t, (lostL st hp).map V.int, rfl, rfl, SqT.of (W22.same _ _ du16), SqT.of upd_same, _, rfl, iteB (fun _ => k _ _ W22 s16) (fun ne => ?_)⟩
            generalize upd H21 t (.tup []) = H22 at W22 ⊢
            clear s22 W21 ht
            have pos : 0 < (lostL st hp).length := by
              cases e : lostL st hp with
              | nil =>
                rw [e] at ne
                cases ne
              | cons c r => exact Nat.succ_pos _
            dsimp only
            -- (10)
            refine ⟨_, rfl, _, rfl, p, l, G16, du, (lostL st hp).map V.int, rfl, W22, SqT.of du16, by rw [List.length_map]; exact pos, by rw [List.length_map]; omega, fun x H23 mx e23 => ?_⟩
            obtain ⟨g, mg', rfl⟩ := List.mem_map.mp mx
            have W23 := e23.w
            clear e23 W22
            dsimp only [gName, List.set]
            -- (11)
            obtain ⟨hs, hpl, hpr⟩ := pH
            have lhs : hs.length = hp.length := by
              have := paired_len hpr
              unfold hpK at this
              rw [List.length_map] at this
              exact this
            refine ⟨_, rfl, ha, rfl, ⟨_, sameT (s16.trans W23.same) hpl.sqT⟩, fun D hD => lc_tup (K := K) (a := ha) (xs := hs.map V.ref) (fun i H' => ∃ ts : List Addr, Same H23 H' ∧ H' D = some (.lst (ts.map V.ref)) ∧ ts.length ≤ i ∧ Paired (fun (t : Addr) (kv : Key × V) => SqT K G t [kV kv.1, kv.2]) ts (hpK (leftH g (hp.take i))))
              ⟨[], sameAdd hD, upd_same, Nat.le_refl _, .nil⟩ (fun i H' _ ⟨_, q, _⟩ => sameT ((s16.trans W23.same).trans q) hpl.sqT) ?_ ?_⟩
            · rintro i x H24 hx ⟨ts, q24, hD24, lt24, pr24⟩
              rw [List.getElem?_map] at hx
              obtain ⟨t, ht, rfl⟩ := Option.map_eq_some_iff.mp hx
              obtain ⟨kv, hkv, tT⟩ := paired_getG hpr ht
              have hkv : (hp.map fun c => ((.inl c.1 : Key), V.int c.2))[i]? = some kv := hkv
              rw [List.getElem?_map] at hkv
              obtain ⟨c, hc, rfl⟩ := Option.map_eq_some_iff.mp hkv
              have tT : SqT K G t [.int c.1, .int c.2] := tT
              have li := (List.getElem?_eq_some_iff.mp hc).1
              have et : leftH g (hp.take (i + 1)) = leftH g (hp.take i) ++ if (!decide (c.1 = g)) = true then [c] else [] := by
                unfold leftH
                rw [List.take_add_one, hc, Option.toList_some, List.filter_append, List.filter_cons, List.filter_nil]
              refine ⟨rfl, _, rfl, t, _, 0, .int c.1, rfl, rfl, sameT ((s16.trans W23.same).trans q24) tT, rfl, _, rfl, rfl, _, rfl, ?_⟩
              rw [int_ne]
              refine iteB (fun hb => ?_) (fun hb => ?_)
              · rw [if_pos hb] at et
                refine ⟨_, rfl, _, hD24, by rw [List.length_map]; omega, ts ++ [t], sameOut q24 hD, by rw [upd_same, List.map_append]; rfl, by rw [List.length_append]; exact Nat.add_le_add_right lt24 1, ?_⟩
                rw [et]
                unfold hpK
                rw [List.map_append]
                exact paired_snoc pr24 tT
              · rw [if_neg (by rw [hb]; exact Bool.false_ne_true), List.append_nil] at et
                exact ⟨ts, q24, hD24, Nat.le_succ_of_le lt24, by rw [et]; exact pr24⟩
            · rintro H24 ⟨ts, q24, hD24, lt24, pr24⟩
              rw [List.length_map, lhs, List.take_length] at pr24
              refine ⟨D, _, rfl, SqL.of hD24, fun lf o2 po2 hlf => ?_⟩
              have e25 := (W23.still q24).w.put (o := .frz o2 (.tup (ts.map V.ref))) hlf
              have W25 := e25.w
              have s25 := s16.trans e25.sub
              have pL : PrT K (upd G16 lf (.frz o2 (.tup (ts.map V.ref)))) lf (hpK (leftH g hp)) := ⟨ts, ⟨o2, po2, upd_same⟩, paired_mono (fun _ _ _ q => sameT s25 q) pr24⟩
              have du25 := e25.sub _ _ du16
              clear e25 pr24 hD24 q24 hD hlf
              generalize upd G16 lf (.frz o2 (.tup (ts.map V.ref))) = G25 at W25 s25 pL du25
              generalize upd H24 lf (.frz o2 (.tup (ts.map V.ref))) = H25 at W25 ⊢
              dsimp only [gName, List.set]
              have okl : HpOk (leftH g hp) := ⟨left_nodup ndh, Nat.le_trans (left_len hp g) okh.2⟩
              have sml : HpSm (leftH g hp) := ⟨Nat.le_trans (left_len hp g) smh.1, fun c m => smh.2 c (List.mem_filter.mp m).1⟩
              obtain ⟨y1, y2, y3⟩ := (lostP_okd (st := st) sml).shown (by decide) (by decide)
              refine ⟨_, rfl, _, rfl, sa, lf, st, leftH g hp, rfl, pS.same (s25.trans W25.same), pL.same W25.same, oks, okl, fun u9 H26 q26 d26 => ?_⟩
              refine ⟨u9, _, H26, rfl, Same.refl _, d26, y1, y2, y3, ?_⟩
              have du26 := q26 _ _ (W25.same _ _ du25)
              refine ⟨_, rfl, du, rfl, ⟨_, SqT.of du26⟩, fun D2 hD2 => lc_tup (K := K) (a := du) (xs := (lostL st hp).map V.int) (fun i H' => Same H26 H' ∧ H' D2 = some (.lst ((((lostL st hp).take i).filter fun x => !decide (x = g)).map V.int))) ⟨sameAdd hD2, upd_same⟩ (fun i H' _ q => SqT.of (q.1 _ _ du26)) ?_ ?_⟩
              · rintro i x H27 hx ⟨q27, hD27⟩
                rw [List.getElem?_map] at hx
                obtain ⟨n, hn, rfl⟩ := Option.map_eq_some_iff.mp hx
                have et : ((lostL st hp).take (i + 1)).filter (fun x => !decide (x = g)) = ((lostL st hp).take i).filter (fun x => !decide (x = g)) ++ if (!decide (n = g)) = true then [n] else [] := by
                  rw [List.take_add_one, hn, Option.toList_some, List.filter_append, List.filter_cons, List.filter_nil]
                refine ⟨rfl, _, rfl, _, rfl, rfl, _, rfl, ?_⟩
                rw [int_ne]
                refine iteB (fun hb => ?_) (fun hb => ?_)
                · rw [if_pos hb] at et
                  refine ⟨_, rfl, _, hD27, ?_, sameOut q27 hD2, ?_⟩
                  · rw [List.length_map]
                    have h2 := List.length_filter_le (fun x => !decide (x = g)) ((lostL st hp).take i)
                    rw [List.length_take] at h2
                    omega
                  · rw [upd_same, et, List.map_append]
                    rfl
                · rw [if_neg (by rw [hb]; exact Bool.false_ne_true), List.append_nil] at et
                  exact ⟨q27, by rw [et]; exact hD27⟩
              · rintro H27 ⟨q27, hD27⟩
                rw [List.length_map, List.take_length, ← lost_left mg'] at hD27
                refine ⟨D2, _, rfl, .inl ⟨SqL.of hD27, fun t ht => ?_⟩⟩
                have s28 := sameAdd (o := .tup ((lostL st (leftH g hp)).map V.int)) ht
                refine ⟨.ref t, _, _, rfl, Same.refl _, da_lost upd_same, y1, y2, y3, rfl, ?_⟩
                rw [str_same2]
                exact k _ _ (W25.still ((q26.trans q27).trans s28)).w s25
end
end L2.Hx

/-! Lost cells and joined clauses: whole parts. -/
namespace L2.Hx
open PySem PySem.Spec PyProof.Rows
def spWhole (K : PySem.W.Frag) : Sp := fun vs H Q _ => ∃ v s h lk pt st hp, ∃ (R : Addr → Key × V → Prop) (hs : List Addr), vs = [v, .ref s, .ref h] ∧ Da K H v (lclauseD lk pt) ∧ PrT K H s (stK st) ∧ PlT H h (hs.map V.ref) ∧ Paired R hs (hpK hp) ∧ (∀ t kv, R t kv → SqT K H t [kV kv.1, kv.2]) ∧ StOk st ∧ HpOk hp ∧ KnR st lk ∧ KnR st pt ∧ pt.length ≤ 1000 ∧
  match takenS st hp lk pt with
    | none => ∀ H', Same H H' → Q .non H'
    | some T => ∀ (l : Addr) (ts : List Addr) (H' : Hp), Same H H' → H l = none → H' l = some (.tup (ts.map V.ref)) → Paired R ts (hpK (cellsIn hp T)) → Q (.ref l) H'
section
variable {P : Program} {w : World} {K : PySem.W.Frag} {mg : Str → Option Value} {base : Heap}
theorem D_l_whole_part (T : Txt K mg) : Df P w K mg base 4 "_law_whole_part" ["clause", "store", "heap"] (spWhole K) := by
  have D_l_roads := D_l_roads (P := P) (w := w) (base := base) T
  obtain ⟨f, fd, S⟩ := T.d_l_whole_part
  refine Df.mk' (k := 3) S sc_l_whole_part (fun vs H Q E h => ?_) (fun cdv A outer s H vs Q E hgd hr h => ?_)
  · obtain ⟨v, s, h, lk, pt, st, hp, R, hs, rfl, _⟩ := h
    rfl
  · obtain ⟨v, sa, ha, lk, pt, st, hp, RR, hs2, rfl, hd, hs, hpl, hpr, hRR, oks, ok, knl, knp, lpt, k⟩ := h
    have hh : PrT K H ha (hpK hp) := ⟨hs2, hpl, paired_mono (fun t _ kv q => hRR t kv q) hpr⟩
    have hu := hu_of hr
    refine ⟨_, (pss_cons (ps_set (i := 3) sc_l_whole_part.nd rfl (.inl rfl) (pe_d D_l_roads hgd hr (pa_cons (pv 0) (pa_cons (pv 1) (pa_cons (pv 2) pa_nil)))))
      (pss_cons (ps_if (pt_cmpR op_isN (pv 3) pe_non (nomark _)) (pss_one (ps_ret pe_non)) pss_nil)
      (pss_cons (ps_set (i := 4) sc_l_whole_part.nd rfl (.inr rfl) (pe_lst pa_nil))
      (pss_cons (ps_for PassesOwn.never rfl (pi_list (pv 3)) (pg_name (i := 5) sc_l_whole_part.nd rfl (.inl rfl))
      (pss_one (ps_expr (pe_bm PySem.F.plainAttrs_list PySem.F.slot_list_extend PySem.F.type_list_extend mt_extend (pv 4) (pa_cons (pv 5) pa_nil)))))
      (pss_one (ps_ret (pe_callTy call_tuple_of (by rfl) T.b_tuple (by decide +kernel) (pa_cons (pe_lc (own := [("cell", 6)]) (g := gName 6) (tt := tTest (tOp (rIn K false) (tOp (rIxT K) (tVar 6) (tC (.int 0))) (tVar 4))) (te := tVar 6) rfl sc_l_whole_part.nd (pi_tup (pv 2)) (blkOk_by (own := [("cell", 6)]) (N := ["clause", "store", "heap", "roads", "taken_v", "road", "cell"]) (sc := defScope s_l_whole_part) (by decide +kernel)) (fun _ _ _ _ _ => pg_name (i := 6) sc_l_whole_part.nd rfl (.inl rfl)) (fun _ _ _ _ _ => (pts_one (pt_cmpR op_in_seq (pe_ix ix_tup (pv 6) pe_int (fun _ _ => rfl)) (pv 4) (by rfl)))) (fun _ _ _ _ _ => (pv 6))) pa_nil)))))))), ?_⟩
    refine ⟨_, rfl, _, rfl, _, rfl, v, sa, ha, lk, pt, st, hp, rfl, hd, hs, hh, oks, ok, knl, knp, lpt, ?_⟩
    cases e : takenS st hp lk pt with
    | none =>
      intro H1 q1
      rw [e] at k
      exact ⟨_, rfl, rfl, true, by simp, k _ q1⟩
    | some Tk =>
      intro R as rds H1 q1 hR pr fl
      rw [e] at k
      have on : Once (keysH hp) Tk := takenF_once e
      have lTk : Tk.length ≤ 2000 := by
        have := once_len on
        have hl := ok.2
        unfold keysH at this
        rw [List.length_map] at this
        omega
      refine ⟨_, rfl, rfl, false, by simp, ?_⟩
      refine ⟨Nat.zero_le _, fun D hD => ?_⟩
      dsimp only [gName, List.set]
      have la := paired_len pr
      refine ⟨_, rfl, R, rfl, ⟨_, SqL.of (sameAdd hD _ _ hR)⟩, for_list (K := K) (a := R) (xs := as.map V.ref) (fun i σ H2 => ∃ o5 o6, σ = [some v, some (.ref sa), some (.ref ha), some (.ref R), some (.ref D), o5, o6] ∧ Same H1 H2 ∧ H2 D = some (.lst ((rds.take i).flatten.map V.int)))
        ⟨_, _, rfl, sameAdd hD, upd_same⟩ (fun i σ H2 _ ⟨_, _, _, q, _⟩ => SqL.of (q _ _ hR)) ?_ ?_⟩
      · rintro i x σ H2 hx ⟨o5, o6, rfl, q2, hD2⟩
        rw [List.getElem?_map] at hx
        obtain ⟨M, hM, rfl⟩ := Option.map_eq_some_iff.mp hx
        obtain ⟨rd, hrd, hMv⟩ := LiI.paired_get pr hM
        have sp : Tk = (rds.take i).flatten ++ (rd ++ (rds.drop (i + 1)).flatten) := by
          rw [← fl]
          obtain ⟨li, e⟩ := List.getElem?_eq_some_iff.mp hrd
          conv => lhs; rw [← List.take_append_drop i rds, List.flatten_append, List.drop_eq_getElem_cons li, e, List.flatten_cons]
        have ls := congrArg List.length sp
        rw [List.length_append, List.length_append] at ls
        dsimp only [gName, List.set]
        refine ⟨_, rfl, .inl ⟨rfl, _, SqL.of hD2⟩, _, rfl, D, M, _, _, rfl, rfl, hD2, q2 _ _ hMv, by rw [List.length_map, List.length_map]; exact sum4000 (by omega) (by omega), ?_⟩
        refine ⟨_, _, rfl, sameOut q2 hD, ?_⟩
        rw [upd_same, List.take_add_one, hrd, Option.toList_some, List.flatten_append, List.map_append]
        simp
      · rintro σ H2 ⟨o5, o6, rfl, q2, hD2⟩
        rw [List.length_map, la, List.take_length, fl] at hD2
        dsimp only [gName, List.set]
        have q03 := q1.trans q2
        have lhs2 : hs2.length = hp.length := by
          have := paired_len hpr
          unfold hpK at this
          rw [List.length_map] at this
          exact this
        refine ⟨_, rfl, ha, rfl, ⟨_, sameT q03 hpl.sqT⟩, fun N hN => lc_tup (K := K) (a := ha) (xs := hs2.map V.ref) (fun i H4 => ∃ ts : List Addr, Same H2 H4 ∧ H4 N = some (.lst (ts.map V.ref)) ∧ ts.length ≤ i ∧ Paired RR ts (hpK (cellsIn (hp.take i) Tk))) ⟨[], sameAdd hN, upd_same, Nat.le_refl _, .nil⟩ (fun i H4 _ ⟨_, q, _⟩ => sameT (q03.trans q) hpl.sqT) ?_ ?_⟩
        · rintro i x H4 hx ⟨ts, q4, hN4, lt4, pr4⟩
          rw [List.getElem?_map] at hx
          obtain ⟨t, ht, rfl⟩ := Option.map_eq_some_iff.mp hx
          obtain ⟨kv, hkv, tT⟩ := paired_getG hpr ht
          have hkv : (hp.map fun c => ((.inl c.1 : Key), V.int c.2))[i]? = some kv := hkv
          rw [List.getElem?_map] at hkv
          obtain ⟨c, hc, rfl⟩ := Option.map_eq_some_iff.mp hkv
          have rT := tT
          have tT : SqT K H t [.int c.1, .int c.2] := hRR _ _ tT
          have li := (List.getElem?_eq_some_iff.mp hc).1
          have okl := ok.2
          have et : cellsIn (hp.take (i + 1)) Tk = cellsIn (hp.take i) Tk ++ if decide (c.1 ∈ Tk) = true then [c] else [] := by
            unfold cellsIn
            rw [List.take_add_one, hc, Option.toList_some, List.filter_append, List.filter_cons, List.filter_nil]
          refine ⟨rfl, _, rfl, t, _, 0, .int c.1, rfl, rfl, sameT (q03.trans q4) tT, rfl, _, rfl, D, _, rfl, .inl (SqL.of (q4 _ _ hD2)), rfl, flat_ints Tk, _, rfl, ?_⟩
          show if inV (.int c.1) (Tk.map V.int) = true then _ else _
          rw [inV_int]
          refine iteB (fun hb => ?_) (fun hb => ?_)
          · rw [if_pos hb] at et
            refine ⟨_, rfl, _, hN4, by rw [List.length_map]; exact small2000 (by omega), ts ++ [t], sameOut q4 hN, by rw [upd_same, List.map_append]; rfl, by rw [List.length_append]; exact Nat.add_le_add_right lt4 1, ?_⟩
            rw [et]
            unfold hpK
            rw [List.map_append]
            exact paired_snoc pr4 rT
          · rw [if_neg (by rw [hb]; exact Bool.false_ne_true), List.append_nil] at et
            exact ⟨ts, q4, hN4, Nat.le_succ_of_le lt4, by rw [et]; exact pr4⟩
        · rintro H4 ⟨ts, q4, hN4, lt4, pr4⟩
          rw [List.length_map, lhs2, List.take_length] at pr4
          refine ⟨N, _, rfl, .inl ⟨SqL.of hN4, fun l hl => ?_⟩⟩
          exact k l ts _ ((q03.trans q4).trans (sameAdd hl)) (Same.none (q03.trans q4) hl) upd_same pr4
/-! data of pairs -/
theorem dp_pair {H : Hp} {t : Addr} {c : Int × Int} (h : SqT K H t [.int c.1, .int c.2]) : Dp K H (.ref t) (pairD c) := .tup h (.cons (.int _) (.cons (.int _) .nil))
end
theorem dp_pairs {K : PySem.W.Frag} {H : Hp} : ∀ {ts : List Addr} {l : Hl}, Paired (fun (t : Addr) (kv : Key × V) => SqT K H t [kV kv.1, kv.2]) ts (hpK l) → DpAll K H (ts.map V.ref) (l.map pairD)
  | [], [], _ => .nil
  | [], _ :: _, h => by cases h
  | _ :: _, [], h => by cases h
  | t :: ts, c :: l, h => by
    have h : Paired (fun (t : Addr) (kv : Key × V) => SqT K H t [kV kv.1, kv.2]) (t :: ts) (((.inl c.1 : Key), V.int c.2) :: hpK l) := h
    cases h with
    | cons h r => exact .cons (dp_pair h) (dp_pairs r)
theorem da_pairs {K : PySem.W.Frag} {H : Hp} : ∀ {ts : List Addr} {l : Hl}, Paired (fun (t : Addr) (kv : Key × V) => SqT K H t [kV kv.1, kv.2]) ts (hpK l) → DaAll K H (ts.map V.ref) (l.map pairD)
  | [], [], _ => .nil
  | [], _ :: _, h => by cases h
  | _ :: _, [], h => by cases h
  | t :: ts, c :: l, h => by
    have h : Paired (fun (t : Addr) (kv : Key × V) => SqT K H t [kV kv.1, kv.2]) (t :: ts) (((.inl c.1 : Key), V.int c.2) :: hpK l) := h
    cases h with
    | cons h r => exact .cons (da_pair h) (da_pairs r)
theorem eqv_pair (d c : Int × Int) : PyData.eqv (pairD d) (pairD c) = decide (d = c) := by
  obtain ⟨a, b⟩ := d
  obtain ⟨x, y⟩ := c
  simp [pairD, PyData.eqv, PyData.eqvAll]
  by_cases h1 : a = x <;> by_cases h2 : b = y <;> simp [h1, h2]
theorem any_pair (l : Hl) (c : Int × Int) : ((l.map pairD).any fun z => PyData.eqv z (pairD c)) = decide (c ∈ l) := by
  induction l with
  | nil => rfl
  | cons d l ih =>
    rw [List.map_cons, List.any_cons, ih, eqv_pair]
    by_cases h1 : d = c
    · subst h1
      simp
    · by_cases h2 : c ∈ l
      · simp [h2]
      · have : ¬ c = d := fun e => h1 e.symm
        simp [h1, h2, this]
theorem eqv_nilP (l : Hl) : PyData.eqv (.list (l.map pairD)) (.list []) = decide (l = []) := by
  cases l <;> simp [PyData.eqv, PyData.eqvAll]
theorem lay_pairs (l : Hl) : PyData.canLayAll0 (l.map pairD) = true ∧ PyData.depthAll (l.map pairD) ≤ 3 := by
  induction l with
  | nil => exact ⟨rfl, by simp [PyData.depthAll]⟩
  | cons c l ih =>
    refine ⟨by simpa [PyData.canLayAll0, PyData.canLay0, pairD] using ih.1, ?_⟩
    have := ih.2
    simp only [List.map_cons, PyData.depthAll, pairD, PyData.depth]
    omega
theorem shaped_lst (l : Hl) : SeqAt.shaped (.list (l.map pairD)) = true := by
  have h := lay_pairs l
  unfold SeqAt.shaped
  rw [Bool.and_eq_true]
  refine ⟨by simpa [PyData.canLay0] using h.1, decide_eq_true ?_⟩
  simp only [PyData.depth]
  omega
theorem shaped_tup (l : Hl) : SeqAt.shaped (.tuple (l.map pairD)) = true := by
  have h := lay_pairs l
  unfold SeqAt.shaped
  rw [Bool.and_eq_true]
  refine ⟨by simpa [PyData.canLay0] using h.1, decide_eq_true ?_⟩
  simp only [PyData.depth]
  omega
theorem shaped_pair (c : Int × Int) : SeqAt.shaped (pairD c) = true := by
  unfold SeqAt.shaped pairD
  rw [Bool.and_eq_true]
  refine ⟨by simp [PyData.canLay0, PyData.canLayAll0], decide_eq_true ?_⟩
  simp [PyData.depth, PyData.depthAll]
/-- two tuples at hand in two tuples at hand -/
theorem td_cat2 {K : PySem.W.Frag} {p l : Addr} {σ : St} {G : Hp} {i j : Nat} {a b : Addr} {c : Int} {xs ys : List V} {v1 v2 : V} {ds es : List PyData} (hi : σ[i]? = some (some (.ref a))) (hj : σ[j]? = some (some (.ref b))) (Ta : SqT K G a xs) (Tb : SqT K G b ys) (ax : atI xs c = some v1) (ay : atI ys c = some v2)
    (d1 : Da K G v1 (.tuple ds)) (d2 : Da K G v2 (.tuple es)) (hl : ds.length + es.length ≤ 10000) : TD K p l σ G (tOp (rCatA K) (tOp (rIxT K) (tVar i) (tC (.int c))) (tOp (rIxT K) (tVar j) (tC (.int c)))) (fun d => d = .tuple (ds ++ es)) := fun G1 H Q W s k => by
  obtain ⟨a1, xs1, rfl, t1, A1⟩ := d1.tupI
  obtain ⟨b1, ys1, rfl, t2, A2⟩ := d2.tupI
  have big : (10000 : Nat) ≤ sizeLine := by decide
  have e1 := A1.length
  have e2 := A2.length
  refine ⟨_, hi, a, xs, c, _, rfl, rfl, sameT (s.trans W.same) Ta, ax, _, hj, b, ys, c, _, rfl, rfl, sameT (s.trans W.same) Tb, ay, a1, b1, xs1, ys1, rfl, rfl, sameT (s.trans W.same) t1, sameT (s.trans W.same) t2, by omega, fun e => ?_, fun _ e => ?_, fun _ _ q hq => ?_⟩
  · rw [e] at A1
    cases A1
    exact k _ _ _ _ (Ext.refl W) ((Da.tup t2 A2).mono s) rfl
  · rw [e] at A2
    cases A2
    exact k _ _ _ _ (Ext.refl W) ((Da.tup t1 A1).mono s) (by rw [List.append_nil])
  · have e3 := W.put (o := .tup (xs1 ++ ys1)) hq
    exact k _ _ _ _ e3 (.tup (SqT.of upd_same) ((A1.append A2).mono (s.trans e3.sub))) rfl
end L2.Hx

/-! Lost cells and joined clauses: joined clauses are right. -/
namespace L2.Hx
open PySem PySem.Spec PyProof.Rows
def nm8 : List Str := ["a", "result", "x"]
def ts8 : List Str := ["a", "result", "x", "nil"]
theorem in8 {t : Str} (h : t ∈ ts8) : t = "nil" ∨ t ∈ nm8 := by
  have : ∀ t ∈ ts8, t = "nil" ∨ t ∈ nm8 := by decide +kernel
  exact this t h
def spJoin (K : PySem.W.Frag) : Sp := fun vs H Q _ => ∃ (p l : Addr) (G : Hp), vs = [.ref p] ∧ Wd p l G H ∧ ∀ G' H', Wd p l G' H' → Same G G' → Q (.bl true) H'
section
variable {P : Program} {w : World} {K : PySem.W.Frag} {mg : Str → Option Value} {base : Heap}
theorem D_l_is_joined_right (T : Txt K mg) : Df P w K mg base 5 "_law_is_joined_right" ["deck"] (spJoin K) := by
  have D_l_clause := D_l_clause (P := P) (w := w) (base := base) T
  have D_l_world := D_l_world (P := P) (w := w) (base := base) T
  have D_l_whole_part := D_l_whole_part (P := P) (w := w) (base := base) T
  have D_part_of := (DS_part_of (P := P) (w := w) (base := base) T).df
  have D_holds := (DS_holds (P := P) (w := w) (base := base) T).df
  obtain ⟨f, fd, S⟩ := T.d_l_is_joined_right
  refine Df.mk' (k := 4) S sc_l_is_joined_right (fun vs H Q E h => ?_) (fun cdv A outer s H vs Q E hgd hr h => ?_)
  · obtain ⟨p, l, G, rfl, _⟩ := h
    rfl
  · obtain ⟨p, l, G, rfl, W, k⟩ := h
    have hu := hu_of hr
    have big : (2000 : Nat) ≤ sizeLine := by decide
    refine ⟨_, (pss_cons (ps_set (i := 1) sc_l_is_joined_right.nd rfl (.inl rfl) (pe_lst (pa_cons pe_str (pa_cons pe_str (pa_cons pe_str pa_nil)))))
      (pss_cons (ps_par (i := 2) (j := 3) (by rfl) sc_l_is_joined_right.nd rfl rfl (by decide) rfl rfl (pa_cons (pe_d D_l_clause hgd hr (pa_cons (pv 0) (pa_cons (pe_op op_cat (pv 1) (pe_lst (pa_cons pe_str pa_nil))) (pa_cons pe_int (pa_cons pe_int pa_nil))))) (pa_cons (pe_d D_l_clause hgd hr (pa_cons (pv 0) (pa_cons (pe_op op_cat (pv 1) (pe_lst (pa_cons pe_str pa_nil))) (pa_cons pe_int (pa_cons pe_int pa_nil))))) pa_nil)) (by rfl))
      (pss_cons (ps_set (i := 4) sc_l_is_joined_right.nd rfl (.inl rfl) (pe_tup (pa_cons (pe_op op_catA (pe_ix ix_tup (pv 2) pe_int (fun _ _ => rfl)) (pe_ix ix_tup (pv 3) pe_int (fun _ _ => rfl))) (pa_cons (pe_op op_catA (pe_ix ix_tup (pv 2) pe_int (fun _ _ => rfl)) (pe_ix ix_tup (pv 3) pe_int (fun _ _ => rfl))) pa_nil))))
      (pss_cons (ps_asg (pe_d D_l_world hgd hr (pa_cons (pv 0) (pa_cons (pv 1) (pa_cons (pv 4) pa_nil)))) (pg_tup rfl (pgs_cons (pg_name (i := 5) sc_l_is_joined_right.nd rfl (.inl rfl)) (pgs_cons (pg_name (i := 6) sc_l_is_joined_right.nd rfl (.inl rfl)) pgs_nil))))
      (pss_cons (ps_asg (pe_tup (pa_cons (pe_d D_l_whole_part hgd hr (pa_cons (pv 2) (pa_cons (pv 5) (pa_cons (pv 6) pa_nil)))) (pa_cons (pe_d D_l_whole_part hgd hr (pa_cons (pv 3) (pa_cons (pv 5) (pa_cons (pv 6) pa_nil)))) pa_nil))) (pg_tup rfl (pgs_cons (pg_name (i := 7) sc_l_is_joined_right.nd rfl (.inl rfl)) (pgs_cons (pg_name (i := 8) sc_l_is_joined_right.nd rfl (.inr rfl)) pgs_nil))))
      (pss_cons (ps_set (i := 9) sc_l_is_joined_right.nd rfl (.inl rfl) pe_non)
      (pss_cons (ps_if (PW.pt (pw_and (pt_cmpR op_notN (pv 7) pe_non (nomark _)) (pw_and (pt_cmpR op_notN (pv 8) pe_non (nomark _)) (pw_and1 (pt_cmpR (op_eqD hr.units) (pe_lc (own := [("cell", 10)]) (g := gName 10) (tt := tTest (tOp (rInT K) (tVar 10) (tVar 8))) (te := tVar 10) rfl sc_l_is_joined_right.nd (pi_tup (pv 7)) (blkOk_by (own := [("cell", 10)]) (N := ["deck", "names", "one", "other", "both", "store", "heap", "first", "second", "due", "cell", "seen"]) (sc := defScope s_l_is_joined_right) (by decide +kernel)) (fun _ _ _ _ _ => pg_name (i := 10) sc_l_is_joined_right.nd rfl (.inl rfl)) (fun _ _ _ _ _ => (pts_one (pt_cmpR (op_inT (units65 hr)) (pv 10) (pv 8) (by rfl)))) (fun _ _ _ _ _ => (pv 10))) (pe_lst pa_nil) (nomark _)))))) (pss_one (ps_set (i := 9) sc_l_is_joined_right.nd rfl (.inl rfl) (pe_callTy call_tuple_of (by rfl) T.b_tuple (by decide +kernel) (pa_cons (pe_callB cr_sortedPT (by rfl) T.b_sorted (by decide +kernel) (pa_cons (pe_op op_cat (pe_callTy call_list_of (by rfl) T.b_list (by decide +kernel) (pa_cons (pv 7) pa_nil)) (pe_callTy call_list_of (by rfl) T.b_list (by decide +kernel) (pa_cons (pv 8) pa_nil))) pa_nil)) pa_nil)))) pss_nil)
      (pss_cons (ps_set (i := 11) sc_l_is_joined_right.nd rfl (.inl rfl) (pe_lst (pa_cons (pe_d D_part_of hgd hr (pa_cons (pv 2) (pa_cons (pv 5) (pa_cons (pv 6) pa_nil)))) (pa_cons (pe_d D_part_of hgd hr (pa_cons (pv 3) (pa_cons (pv 5) (pa_cons (pv 6) pa_nil)))) (pa_cons (pe_d D_part_of hgd hr (pa_cons (pv 4) (pa_cons (pv 5) (pa_cons (pv 6) pa_nil)))) pa_nil)))))
      (pss_cons (ps_if (pt_cmpR op_ne (pe_callB (call_repr hgd hr.units) (by rfl) T.b_repr (by decide +kernel) (pa_cons (pv 11) pa_nil)) (pe_callB (call_repr hgd hr.units) (by rfl) T.b_repr (by decide +kernel) (pa_cons (pe_lst (pa_cons (pv 7) (pa_cons (pv 8) (pa_cons (pv 9) pa_nil)))) pa_nil)) (nomark _)) (pss_one (ps_ret pe_bl)) pss_nil)
      (pss_one (ps_ret (pe_cmpR op_eq (pe_callB (call_repr hgd hr.units) (by rfl) T.b_repr (by decide +kernel) (pa_cons (pe_d D_holds hgd hr (pa_cons (pe_tup (pa_cons (pv 4) pa_nil)) (pa_cons (pv 5) (pa_cons (pv 6) pa_nil)))) pa_nil)) (pe_callB (call_repr hgd hr.units) (by rfl) T.b_repr (by decide +kernel) (pa_cons (pe_and (pe_cmpR op_notN (pv 9) pe_non (nomark _)) (pe_one (pe_cmpR op_eq (pe_callB call_len_seq (by rfl) T.b_len (by decide +kernel) (pa_cons (pv 9) pa_nil)) (pe_callB call_len_seq (by rfl) T.b_len (by decide +kernel) (pa_cons (pv 6) pa_nil)) (nomark _)))) pa_nil)) (nomark _))))))))))))), ?_⟩
    refine ⟨by show 3 ≤ sizeLine; decide, fun n hn => ?_⟩
    have e0 := W.put (o := .lst [V.str "a", .str "result", .str "x"]) hn
    have g0 : (upd G n (.lst [V.str "a", .str "result", .str "x"])) n = some (.lst (nm8.map V.str)) := upd_same
    have W0 := e0.w
    have s00 := e0.sub
    generalize upd G n (.lst [V.str "a", .str "result", .str "x"]) = G0 at W0 s00 g0
    generalize upd H n (.lst [V.str "a", .str "result", .str "x"]) = H0 at W0 ⊢
    dsimp only [gName, List.set]
    refine ⟨_, rfl, _, rfl, by show 1 ≤ sizeLine; decide, fun L hL => ?_⟩
    have e1 := W0.tmp (o := .lst [V.str "nil"]) hL
    refine ⟨n, L, _, _, rfl, rfl, e1.w.same _ _ g0, upd_same, by show 4 ≤ sizeLine; decide, fun C hC => ?_⟩
    have e2 := e1.w.put (o := .lst (nm8.map V.str ++ [V.str "nil"])) hC
    have gC : (upd G0 C (.lst (nm8.map V.str ++ [V.str "nil"]))) C = some (.lst (ts8.map V.str)) := upd_same
    refine ⟨p, l, _, C, ts8, 1, 2, rfl, e2.w, gC, by decide, by decide, by decide, by decide, by decide, by decide, fun u1 l1 p1 G3 H3 e3 da1 ll1 lp1 il1 ip1 => ?_⟩
    have g3 := e3.sub _ _ (e2.sub _ _ g0)
    refine ⟨_, rfl, _, rfl, by show 1 ≤ sizeLine; decide, fun L4 hL4 => ?_⟩
    have e4 := e3.w.tmp (o := .lst [V.str "nil"]) hL4
    refine ⟨n, L4, _, _, rfl, rfl, e4.w.same _ _ g3, upd_same, by show 4 ≤ sizeLine; decide, fun C5 hC5 => ?_⟩
    have e5 := e4.w.put (o := .lst (nm8.map V.str ++ [V.str "nil"])) hC5
    have gC5 : (upd G3 C5 (.lst (nm8.map V.str ++ [V.str "nil"]))) C5 = some (.lst (ts8.map V.str)) := upd_same
    refine ⟨p, l, _, C5, ts8, 1, 2, rfl, e5.w, gC5, by decide, by decide, by decide, by decide, by decide, by decide, fun u2 l2 p2 G6 H6 e6 da2 ll2 lp2 il2 ip2 => ?_⟩
    have g6 := e6.sub _ _ (e5.sub _ _ g3)
    have da1 := da1.mono (e5.sub.trans e6.sub)
    have W6 := e6.w
    have s06 := ((s00.trans e2.sub).trans e3.sub).trans (e5.sub.trans e6.sub)
    clear e6 e5 e4 e3 e2 e1 gC gC5 g3 hL hL4 hC hC5 W0 g0 s00 W
    refine ⟨_, _, rfl, ?_⟩
    dsimp only [gName, List.set]
    obtain ⟨a1, xs1, rfl, aT1, aA1⟩ := (show Da K G6 u1 (.tuple [.tuple (l1.map lrowD), .tuple (p1.map lrowD)]) from da1).tupI
    obtain ⟨a2, xs2, rfl, aT2, aA2⟩ := (show Da K G6 u2 (.tuple [.tuple (l2.map lrowD), .tuple (p2.map lrowD)]) from da2).tupI
    obtain ⟨v11, v12, rfl, b11, b12⟩ : ∃ v1 v2, xs1 = [v1, v2] ∧ Da K G6 v1 (.tuple (l1.map lrowD)) ∧ Da K G6 v2 (.tuple (p1.map lrowD)) := by
      cases aA1 with
      | cons h1 r1 => cases r1 with
        | cons h2 r2 =>
          cases r2
          exact ⟨_, _, rfl, h1, h2⟩
    obtain ⟨v21, v22, rfl, b21, b22⟩ : ∃ v1 v2, xs2 = [v1, v2] ∧ Da K G6 v1 (.tuple (l2.map lrowD)) ∧ Da K G6 v2 (.tuple (p2.map lrowD)) := by
      cases aA2 with
      | cons h1 r1 => cases r1 with
        | cons h2 r2 =>
          cases r2
          exact ⟨_, _, rfl, h1, h2⟩
    refine TD.asg (K := K) (p := p) (l := l) (G := G6) (φ := fun d => d = lclauseD (l1 ++ l2) (p1 ++ p2)) ?hb W6 (fun u3 d3 G7 H7 e7 da7 f7 => ?_)
    case hb =>
      refine TD.imp (td_tupP (Φ := fun ds => ∃ d r, ds = d :: r ∧ d = .tuple (l1.map lrowD ++ l2.map lrowD) ∧ ∃ d2 r2, r = d2 :: r2 ∧ d2 = .tuple (p1.map lrowD ++ p2.map lrowD) ∧ AllF (fun _ => True) 0 r2) (tds_consP (td_cat2 rfl rfl aT1 aT2 rfl rfl b11 b21 ?_) (tds_consP (td_cat2 rfl rfl aT1 aT2 rfl rfl b12 b22 ?_) tds_nilF)) fun ds f => ?_) fun d f => ?_
      · rw [List.length_map, List.length_map]
        omega
      · rw [List.length_map, List.length_map]
        omega
      · obtain ⟨d, r, rfl, _, d2, r2, rfl, _, z, _⟩ := f
        rw [List.length_cons, List.length_cons, z]
        show 2 ≤ sizeLine
        decide
      · obtain ⟨ds, rfl, d, r, rfl, rfl, d2, r2, rfl, rfl, z, _⟩ := f
        rw [List.length_eq_zero_iff.mp z, ← List.map_append, ← List.map_append]
        rfl
    subst f7
    have W7 := e7.w
    have s07 := s06.trans e7.sub
    have da1 := da1.mono e7.sub
    have da2 := da2.mono e7.sub
    have g7 := e7.sub _ _ g6
    clear e7 W6 aT1 aT2 aA1 aA2 b11 b12 b21 b22 g6 s06
    dsimp only [gName, List.set]
    refine ⟨_, rfl, _, rfl, _, rfl, p, l, G7, n, u3, nm8, l1 ++ l2, p1 ++ p2, rfl, W7, g7, by decide +kernel, by decide, da7, by rw [List.length_append]; omega, fun r m => ?_, fun q sa ha st hp G8 H8 W8 s78 qT pS en pH okh smh srt => ?_⟩
    · rcases List.mem_append.mp m with m | m
      · exact ⟨in8 (ip1 r m).1, in8 (ip1 r m).2⟩
      · exact ⟨in8 (ip2 r m).1, in8 (ip2 r m).2⟩
    refine ⟨q, _, rfl, qT, rfl, _, _, rfl, _, _, rfl, rfl, ?_⟩
    have oks : StOk st := ⟨by rw [en]; decide +kernel, by
      have := congrArg List.length en
      rw [List.length_map] at this
      have h3 : nm8.length = 3 := rfl
      omega⟩
    have knr : ∀ {rs : List Row}, (∀ r ∈ rs, In2 ts8 r) → KnR st rs := fun h r m => ⟨kn_of (by rw [en]; exact in8 (h r m).1), kn_of (by rw [en]; exact in8 (h r m).2)⟩
    have da1 := da1.mono s78
    have da2 := da2.mono s78
    have da7 := da7.mono s78
    have s08 := s07.trans s78
    have kl1 := knr il1
    have kp1 := knr ip1
    have kl2 := knr il2
    have kp2 := knr ip2
    have kl3 : KnR st (l1 ++ l2) := fun r m => (List.mem_append.mp m).elim (kl1 r) (kl2 r)
    have kp3 : KnR st (p1 ++ p2) := fun r m => (List.mem_append.mp m).elim (kp1 r) (kp2 r)
    have lp3 : (p1 ++ p2).length ≤ 1000 := by rw [List.length_append]; omega
    clear knr il1 ip1 il2 ip2 s07 s78 qT g7 W7
    dsimp only [gName, List.set]
    have tb := taken_both (keysH hp) (mapH hp) (wF st) l1 l2 p1 p2
    have r3 : ∀ lk pt, Okd 2 5300000 (dueP st hp lk pt) := fun lk pt => dueP_okd smh
    obtain ⟨hs, hpl, hpr⟩ := pH
    have pH : PrT K G8 ha (hpK hp) := ⟨hs, hpl, paired_mono (fun _ _ _ q => SqT.of q) hpr⟩
    have eN : ∀ lk pt, takenS st hp lk pt = none → dueP st hp lk pt = .none := fun lk pt e => by unfold dueP; rw [e]
    have eS : ∀ lk pt T, takenS st hp lk pt = some T → dueP st hp lk pt = .tuple ((cellsIn hp T).map pairD) := fun lk pt T e => by unfold dueP; rw [e]; rfl
    have no : ∀ {A B : Prop}, B → if false = true then A else B := fun h => h
    have yes : ∀ {A B : Prop}, A → if true = true then A else B := fun h => h
    have tb : takenS st hp (l1 ++ l2) (p1 ++ p2) = (takenS st hp l1 p1).bind fun T1 => (takenS st hp l2 p2).bind fun T2 => if freeOf T1 T2 = true then some (T1 ++ T2) else none := tb
    have daT : ∀ {H' : Hp} {lk pt : List Row} {T : List Int} {a : Addr} {ts : List Addr}, Same H8 H' → takenS st hp lk pt = some T → H' a = some (.tup (ts.map V.ref)) → Paired (fun (t : Addr) (kv : Key × V) => G8 t = some (.tup [kV kv.1, kv.2])) ts (hpK (cellsIn hp T)) → Da K H' (.ref a) (dueP st hp lk pt) := fun {H' lk pt T a ts} q e h pr => by
      rw [eS _ _ _ e]
      exact .tup (SqT.of h) (da_pairs (paired_mono (fun _ _ _ z => SqT.of ((W8.same.trans q) _ _ z)) pr))
    refine' behindS (I := fun σ H' => ∃ (v7 v8 v9 : V) (o10 o11 : Option V), σ = [some (.ref p), some (.ref n), some (.ref a1), some (.ref a2), some u3, some (.ref sa), some (.ref ha), some v7, some v8, some v9, o10, o11] ∧ Same H8 H' ∧ Da K H' v7 (dueP st hp l1 p1) ∧ Da K H' v8 (dueP st hp l2 p2) ∧ Da K H' v9 (dueP st hp (l1 ++ l2) (p1 ++ p2))) (fun fin => ?_) ?_
    rotate_left 1
    · refine ⟨_, rfl, _, rfl, _, rfl, .ref a1, sa, ha, l1, p1, st, hp, (fun t kv => G8 t = some (.tup [kV kv.1, kv.2])), hs, rfl, da1.mono W8.same, pS.same W8.same, hpl.same W8.same, hpr, fun t kv z => SqT.of (W8.same _ _ z), oks, okh, kl1, kp1, by omega, ?_⟩
      cases e1 : takenS st hp l1 p1 with
      | none =>
        intro H9 q9
        have eb : takenS st hp (l1 ++ l2) (p1 ++ p2) = none := by rw [tb, e1]; rfl
        have s9 := W8.same.trans q9
        refine ⟨_, rfl, _, rfl, _, rfl, .ref a2, sa, ha, l2, p2, st, hp, (fun t kv => G8 t = some (.tup [kV kv.1, kv.2])), hs, rfl, da2.mono s9, pS.same s9, hpl.same s9, hpr, fun t kv z => SqT.of (s9 _ _ z), oks, okh, kl2, kp2, by omega, ?_⟩
        cases e2 : takenS st hp l2 p2 with
        | none =>
          intro H10 q10
          refine ⟨by show 2 ≤ sizeLine; decide, fun t ht => ⟨t, _, rfl, SqT.of upd_same, rfl, _, _, rfl, _, _, rfl, rfl, ?_⟩⟩
          have q11 := (q9.trans q10).trans (sameAdd (o := .tup [V.non, .non]) ht)
          generalize upd H10 t (.tup [V.non, .non]) = H11 at q11 ⊢
          dsimp only [gName, List.set]
          refine ⟨_, rfl, rfl, false, by simp, no (no ?_)⟩
          exact fin _ _ ⟨.non, .non, .non, _, _, rfl, q11, by rw [eN _ _ e1]; exact .non, by rw [eN _ _ e2]; exact .non, by rw [eN _ _ eb]; exact .non⟩
        | some T2 =>
          intro lb ts2 H10 q10 n10 d10 pr10
          refine ⟨by show 2 ≤ sizeLine; decide, fun t ht => ⟨t, _, rfl, SqT.of upd_same, rfl, _, _, rfl, _, _, rfl, rfl, ?_⟩⟩
          have sA := sameAdd (o := .tup [V.non, .ref lb]) ht
          have q11 := (q9.trans q10).trans sA
          have d11 := sA _ _ d10
          generalize upd H10 t (.tup [V.non, .ref lb]) = H11 at q11 d11 ⊢
          dsimp only [gName, List.set]
          refine ⟨_, rfl, rfl, false, by simp, no (no ?_)⟩
          exact fin _ _ ⟨.non, .ref lb, .non, _, _, rfl, q11, by rw [eN _ _ e1]; exact .non, daT q11 e2 d11 pr10, by rw [eN _ _ eb]; exact .non⟩
      | some T1 =>
        intro la ts1 H9 q9 n9 d9 pr9
        have s9 := W8.same.trans q9
        refine ⟨_, rfl, _, rfl, _, rfl, .ref a2, sa, ha, l2, p2, st, hp, (fun t kv => G8 t = some (.tup [kV kv.1, kv.2])), hs, rfl, da2.mono s9, pS.same s9, hpl.same s9, hpr, fun t kv z => SqT.of (s9 _ _ z), oks, okh, kl2, kp2, by omega, ?_⟩
        cases e2 : takenS st hp l2 p2 with
        | none =>
          intro H10 q10
          have eb : takenS st hp (l1 ++ l2) (p1 ++ p2) = none := by rw [tb, e1, e2]; rfl
          refine ⟨by show 2 ≤ sizeLine; decide, fun t ht => ⟨t, _, rfl, SqT.of upd_same, rfl, _, _, rfl, _, _, rfl, rfl, ?_⟩⟩
          have sA := q10.trans (sameAdd (o := .tup [V.ref la, .non]) ht)
          have q11 := q9.trans sA
          have d11 := sA _ _ d9
          generalize upd H10 t (.tup [V.ref la, .non]) = H11 at q11 d11 ⊢
          dsimp only [gName, List.set]
          refine ⟨_, rfl, rfl, true, by simp, yes ⟨_, rfl, rfl, false, by simp, no (no ?_)⟩⟩
          exact fin _ _ ⟨.ref la, .non, .non, _, _, rfl, q11, daT q11 e1 d11 pr9, by rw [eN _ _ e2]; exact .non, by rw [eN _ _ eb]; exact .non⟩
        | some T2 =>
          intro lb ts2 H10 q10 n10 d10 pr10
          have eb : takenS st hp (l1 ++ l2) (p1 ++ p2) = if freeOf T1 T2 = true then some (T1 ++ T2) else none := by rw [tb, e1, e2]; rfl
          refine ⟨by show 2 ≤ sizeLine; decide, fun t ht => ⟨t, _, rfl, SqT.of upd_same, rfl, _, _, rfl, _, _, rfl, rfl, ?_⟩⟩
          have sA := sameAdd (o := .tup [V.ref la, .ref lb]) ht
          have q11 := (q9.trans q10).trans sA
          have d11 := (q10.trans sA) _ _ d9
          have f11 := sA _ _ d10
          generalize upd H10 t (.tup [V.ref la, .ref lb]) = H11 at q11 d11 f11 ⊢
          have da11 := daT q11 e1 d11 pr9
          have db11 := daT q11 e2 f11 pr10
          have on2 : Once (keysH hp) T2 := takenF_once e2
          have lc1 : ts1.length = (cellsIn hp T1).length := by
            have := paired_len pr9
            unfold hpK at this
            rw [List.length_map] at this
            exact this
          have lc2 : ts2.length = (cellsIn hp T2).length := by
            have := paired_len pr10
            unfold hpK at this
            rw [List.length_map] at this
            exact this
          have lh := smh.1
          have lc3 : (cellsIn hp T1).length ≤ hp.length := List.length_filter_le _ _
          have lc4 : (cellsIn hp T2).length ≤ hp.length := List.length_filter_le _ _
          clear sA q10 q9 n9 n10 d9 d10 ht s9
          dsimp only [gName, List.set]
          refine ⟨_, rfl, rfl, true, by simp, yes ⟨_, rfl, rfl, true, by simp, yes ?_⟩⟩
          refine ⟨_, rfl, la, rfl, ⟨_, SqT.of d11⟩, fun D hD => lc_tup (K := K) (a := la) (xs := ts1.map V.ref) (fun i H' => ∃ us : List Addr, Same H11 H' ∧ H' D = some (.lst (us.map V.ref)) ∧ us.length ≤ i ∧ Paired (fun (t : Addr) (kv : Key × V) => G8 t = some (.tup [kV kv.1, kv.2])) us (hpK (((cellsIn hp T1).take i).filter fun c => decide (c ∈ cellsIn hp T2)))) ⟨[], sameAdd hD, upd_same, Nat.le_refl _, .nil⟩ (fun i H' _ ⟨_, q, _⟩ => SqT.of (q _ _ d11)) ?_ ?_⟩
          · rintro i x H12 hx ⟨us, q12, hD12, lt12, pr12⟩
            rw [List.getElem?_map] at hx
            obtain ⟨t, ht, rfl⟩ := Option.map_eq_some_iff.mp hx
            obtain ⟨kv, hkv, rT⟩ := paired_getG pr9 ht
            have hkv : ((cellsIn hp T1).map fun c => ((.inl c.1 : Key), V.int c.2))[i]? = some kv := hkv
            rw [List.getElem?_map] at hkv
            obtain ⟨c, hc, rfl⟩ := Option.map_eq_some_iff.mp hkv
            have li := (List.getElem?_eq_some_iff.mp hc).1
            have s12 := (W8.same.trans q11).trans q12
            have tT : SqT K H12 t [.int c.1, .int c.2] := SqT.of (s12 _ _ rT)
            have et : ((cellsIn hp T1).take (i + 1)).filter (fun c => decide (c ∈ cellsIn hp T2)) = ((cellsIn hp T1).take i).filter (fun c => decide (c ∈ cellsIn hp T2)) ++ if decide (c ∈ cellsIn hp T2) = true then [c] else [] := by
              rw [List.take_add_one, hc, Option.toList_some, List.filter_append, List.filter_cons, List.filter_nil]
            refine ⟨rfl, _, rfl, _, rfl, pairD c, (cellsIn hp T2).map pairD, dp_pair tT, .tup (SqT.of (q12 _ _ f11)) (dp_pairs (paired_mono (fun _ _ _ z => SqT.of (s12 _ _ z)) pr10)), shaped_pair c, shaped_tup _, _, rfl, ?_⟩
            rw [any_pair]
            refine iteB (fun hb => ?_) (fun hb => ?_)
            · rw [if_pos hb] at et
              refine ⟨_, rfl, _, hD12, by rw [List.length_map]; omega, us ++ [t], sameOut q12 hD, by rw [upd_same, List.map_append]; rfl, by rw [List.length_append]; exact Nat.add_le_add_right lt12 1, ?_⟩
              rw [et]
              unfold hpK
              rw [List.map_append]
              exact paired_snoc pr12 rT
            · rw [if_neg (by rw [hb]; exact Bool.false_ne_true), List.append_nil] at et
              exact ⟨us, q12, hD12, Nat.le_succ_of_le lt12, by rw [et]; exact pr12⟩
          · rintro H12 ⟨us, q12, hD12, lt12, pr12⟩
            rw [List.length_map, lc1, List.take_length] at pr12
            refine ⟨Nat.zero_le _, fun t ht => ?_⟩
            have s13 := sameAdd (o := .lst []) ht
            have q13 := q11.trans (q12.trans s13)
            refine ⟨.list (((cellsIn hp T1).filter fun c => decide (c ∈ cellsIn hp T2)).map pairD), .list [], .lst (SqL.of (s13 _ _ hD12)) (dp_pairs (paired_mono (fun _ _ _ z => SqT.of ((W8.same.trans q13) _ _ z)) pr12)), .lst (SqL.of upd_same) .nil, shaped_lst _, shaped_lst [], _, rfl, ?_⟩
            rw [eqv_nilP]
            have da13 := da11.mono (q12.trans s13)
            have db13 := db11.mono (q12.trans s13)
            have d13 := (q12.trans s13) _ _ d11
            have f13 := (q12.trans s13) _ _ f11
            generalize upd H12 t (.lst []) = H13 at q13 da13 db13 d13 f13 ⊢
            refine iteB (fun hf => ?_) (fun hf => ?_)
            · have fr : freeOf T1 T2 = true := (both_none on2.2).mp (of_decide_eq_true hf)
              rw [if_pos fr] at eb
              refine ⟨_, rfl, la, ts1.map V.ref, rfl, .inr (SqT.of d13), fun L1 h1 => ?_⟩
              have s14 := sameAdd (o := .lst (ts1.map V.ref)) h1
              have g14 : (upd H13 L1 (.lst (ts1.map V.ref))) L1 = some (.lst (ts1.map V.ref)) := upd_same
              refine ⟨_, rfl, lb, ts2.map V.ref, rfl, .inr (SqT.of (s14 _ _ f13)), fun L2 h2 => ?_⟩
              have s15 := sameAdd (o := .lst (ts2.map V.ref)) h2
              refine ⟨L1, L2, _, _, rfl, rfl, s15 _ _ g14, upd_same, by rw [List.length_map, List.length_map]; exact Nat.le_trans (by omega) (show 4000 ≤ sizeLine by decide), fun C hC => ?_⟩
              rw [← List.map_append]
              have s16 := sameAdd (o := .lst ((ts1 ++ ts2).map V.ref)) hC
              have q16 := q13.trans ((s14.trans s15).trans s16)
              have g16 : (upd (upd (upd H13 L1 (.lst (ts1.map V.ref))) L2 (.lst (ts2.map V.ref))) C (.lst ((ts1 ++ ts2).map V.ref))) C = some (.lst ((ts1 ++ ts2).map V.ref)) := upd_same
              have s36 := (s14.trans s15).trans s16
              generalize upd (upd (upd H13 L1 (.lst (ts1.map V.ref))) L2 (.lst (ts2.map V.ref))) C (.lst ((ts1 ++ ts2).map V.ref)) = H16 at q16 g16 s36 ⊢
              have prB : Paired (fun (t : Addr) (q : Key × V) => G8 t = some (.tup [kV q.1, q.2])) (ts1 ++ ts2) (hpK (cellsIn hp T1 ++ cellsIn hp T2)) := by
                have e : hpK (cellsIn hp T1 ++ cellsIn hp T2) = hpK (cellsIn hp T1) ++ hpK (cellsIn hp T2) := List.map_append
                rw [e]
                exact paired_app pr9 pr10
              refine ⟨C, (ts1 ++ ts2).map V.ref, pairAt G8, rfl, SqL.of g16, fun x m => ?_, fun ys so srt2 pm hso => ?_⟩
              · obtain ⟨t, e, z⟩ := pairAt_ok prB x m
                exact ⟨t, e, SqT.of ((W8.same.trans q16) _ _ z)⟩
              · obtain ⟨ps, hp2, rfl, pr17, pm17, srt17⟩ := sorted_heap prB pm srt2
                have s17 := sameAdd (o := .lst (ps.map V.ref)) hso
                refine ⟨so, ps.map V.ref, rfl, .inl ⟨SqL.of upd_same, fun t2 ht2 => ?_⟩⟩
                have s18 := sameAdd (o := .tup (ps.map V.ref)) ht2
                have q18 := (q16.trans s17).trans s18
                have sE := (s36.trans s17).trans s18
                have e17 : hp2 = cellsIn hp (T1 ++ T2) := srtH_uniq srt17 (srtH_in srt (T1 ++ T2)) (pm17.trans (both_perm okh.1 fr))
                rw [e17] at pr17
                dsimp only [gName, List.set]
                exact fin _ _ ⟨.ref la, .ref lb, .ref t2, _, _, rfl, q18, da13.mono sE, db13.mono sE, daT q18 eb upd_same pr17⟩
            · have fr : ¬ freeOf T1 T2 = true := fun q => (of_decide_eq_false hf) ((both_none on2.2).mpr q)
              rw [if_neg fr] at eb
              exact fin _ _ ⟨.ref la, .ref lb, .non, _, _, rfl, q13, da13, db13, by rw [eN _ _ eb]; exact .non⟩
    · rintro σ H9 ⟨v7, v8, v9, o10, o11, rfl, q9, d7, d8, d9⟩
      have s9 := W8.same.trans q9
      have okS : Okd 5 16000000 (.list [dueP st hp l1 p1, dueP st hp l2 p2, dueP st hp (l1 ++ l2) (p1 ++ p2)]) := three_okd (r3 l1 p1).mono (r3 l2 p2).mono (r3 (l1 ++ l2) (p1 ++ p2)).mono
      obtain ⟨t1, t2, t3⟩ := okS.shown (by decide) (by decide)
      dsimp only
      refine ⟨_, rfl, _, rfl, _, rfl, .ref a1, sa, ha, l1, p1, st, hp, rfl, da1.mono s9, pS.same s9, pH.same s9, oks, okh, kl1, kp1, fun w1 H10 q10 x1 => ?_⟩
      have s10 := s9.trans q10
      refine ⟨_, rfl, _, rfl, _, rfl, .ref a2, sa, ha, l2, p2, st, hp, rfl, da2.mono s10, pS.same s10, pH.same s10, oks, okh, kl2, kp2, fun w2 H11 q11 x2 => ?_⟩
      have s11 := s10.trans q11
      refine ⟨_, rfl, _, rfl, _, rfl, u3, sa, ha, l1 ++ l2, p1 ++ p2, st, hp, rfl, da7.mono s11, pS.same s11, pH.same s11, oks, okh, kl3, kp3, fun w3 H12 q12 x3 => ?_⟩
      refine ⟨by show 3 ≤ sizeLine; decide, fun L hL => ?_⟩
      have sL := sameAdd (o := .lst [w1, w2, w3]) hL
      have dS : Da K (upd H12 L (.lst [w1, w2, w3])) (.ref L) (.list [dueP st hp l1 p1, dueP st hp l2 p2, dueP st hp (l1 ++ l2) (p1 ++ p2)]) := .lst upd_same (.cons (x1.mono ((q11.trans q12).trans sL)) (.cons (x2.mono (q12.trans sL)) (.cons (x3.mono sL) .nil)))
      have q9L := ((q10.trans q11).trans q12).trans sL
      have s13 := s9.trans q9L
      have z13 : Same H8 _ := q9.trans q9L
      generalize upd H12 L (.lst [w1, w2, w3]) = H13 at dS q9L s13 z13 ⊢
      dsimp only [gName, List.set]
      refine ⟨_, rfl, .ref L, _, H13, rfl, Same.refl _, dS, t1, t2, t3, ?_⟩
      refine ⟨_, rfl, _, rfl, _, rfl, by show 3 ≤ sizeLine; decide, fun L2 hL2 => ?_⟩
      have sM := sameAdd (o := .lst [v7, v8, v9]) hL2
      have s14 := s13.trans sM
      have z14 := z13.trans sM
      have d9' := d9.mono (q9L.trans sM)
      have dM : Da K (upd H13 L2 (.lst [v7, v8, v9])) (.ref L2) (.list [dueP st hp l1 p1, dueP st hp l2 p2, dueP st hp (l1 ++ l2) (p1 ++ p2)]) := .lst upd_same (.cons (d7.mono (q9L.trans sM)) (.cons (d8.mono (q9L.trans sM)) (.cons d9' .nil)))
      generalize upd H13 L2 (.lst [v7, v8, v9]) = H14 at dM s14 z14 d9' ⊢
      refine ⟨.ref L2, _, H14, rfl, Same.refl _, dM, t1, t2, t3, rfl, _, rfl, ?_⟩
      rw [str_same]
      refine no ?_
      dsimp only
      refine ⟨_, rfl, by show 1 ≤ sizeLine; decide, fun t ht => ?_⟩
      have sT := sameAdd (o := .tup [u3]) ht
      have s15 := s14.trans sT
      have z15 := z14.trans sT
      have dT : Da K (upd H14 t (.tup [u3])) (.ref t) (.tuple [lclauseD (l1 ++ l2) (p1 ++ p2)]) := .tup (SqT.of upd_same) (.cons (da7.mono s15) .nil)
      have d9' := d9'.mono sT
      generalize upd H14 t (.tup [u3]) = H15 at s15 z15 dT d9' ⊢
      refine ⟨_, rfl, _, rfl, .ref t, sa, ha, l1 ++ l2, p1 ++ p2, st, hp, rfl, dT, pS.same s15, pH.same s15, oks, okh, kl3, kp3, fun H16 q16 => ?_⟩
      have okW : Okd 4 5300000 (.bool (wholeP st hp (l1 ++ l2) (p1 ++ p2))) := ⟨rfl, Nat.zero_le _, by show 5 ≤ 5300000; decide⟩
      obtain ⟨y1, y2, y3⟩ := okW.shown (by decide) (by decide)
      refine ⟨.bl _, _, H16, rfl, Same.refl _, .bl _, y1, y2, y3, ?_⟩
      have d9' := d9'.mono q16
      have s16 := s15.trans q16
      have W16 := (W8.still (z15.trans q16)).w
      clear q9L z15 z14 z13 dS dM dT x1 x2 x3
      cases eb : takenS st hp (l1 ++ l2) (p1 ++ p2) with
      | none =>
        have ew : wholeP st hp (l1 ++ l2) (p1 ++ p2) = false := by unfold wholeP; rw [eb]
        rw [eN _ _ eb] at d9'
        cases d9'.nonI
        rw [ew] at y1 y2 y3 ⊢
        refine ⟨_, rfl, rfl, false, by simp, ?_⟩
        refine no ?_
        refine ⟨.bl false, .bool false, H16, rfl, Same.refl _, .bl false, y1, y2, y3, rfl, ?_⟩
        rw [str_same2]
        exact k _ _ W16 s08
      | some T =>
        have ew : wholeP st hp (l1 ++ l2) (p1 ++ p2) = decide (T.length = hp.length) := by unfold wholeP; rw [eb]
        rw [eS _ _ _ eb] at d9'
        obtain ⟨a9, xs9, rfl, aT, aA⟩ := d9'.tupI
        obtain ⟨ys, yP, yl, yA⟩ := pairs_at pH
        refine ⟨_, rfl, rfl, true, by simp, yes ?_⟩
        refine ⟨_, rfl, a9, xs9, rfl, .inr aT, _, rfl, ha, ys, rfl, .inr (sameT s16 yP.sqT), rfl, ?_⟩
        have el : decide (V.int (xs9.length : Int) = V.int (ys.length : Int)) = wholeP st hp (l1 ++ l2) (p1 ++ p2) := by
          rw [ew, int_eq]
          have e1 : xs9.length = T.length := by
            rw [aA.length, List.length_map]
            exact filter_len okh.1 (takenF_once eb)
          rw [e1, yl]
          by_cases h : T.length = hp.length
          · rw [h, decide_eq_true rfl, decide_eq_true rfl]
          · rw [decide_eq_false h]
            exact decide_eq_false (by omega)
        rw [el]
        refine ⟨_, _, H16, rfl, Same.refl _, .bl _, y1, y2, y3, rfl, ?_⟩
        rw [str_same2]
        exact k _ _ W16 s08
end
end L2.Hx

/-! Lost cells and joined clauses: the law. -/
namespace L2.Hx
open PySem PySem.Spec PyProof.Rows
def nm5 : List Str := ["a", "b", "result", "s", "x"]
theorem cut_subS (ns : List Str) (lo hi : Option Int) : ∃ ms : List Str, cutV (ns.map V.str) lo hi = ms.map V.str ∧ ms.Sublist ns := by
  refine ⟨(ns.drop (HT.sIx (ns.map V.str).length 0 lo)).take (HT.sIx (ns.map V.str).length (ns.map V.str).length hi - HT.sIx (ns.map V.str).length 0 lo), ?_, (List.take_sublist _ _).trans (List.drop_sublist _ _)⟩
  unfold cutV
  rw [List.map_take, List.map_drop]
theorem nm5_ok : ∀ z ∈ nm5, Okd 0 100 (.str z) := by
  have h : (nm5.all fun z => okB (.str z) && decide (siz (.str z) ≤ 100)) = true := by decide +kernel
  rw [List.all_eq_true] at h
  intro z m
  have q := h z m
  rw [Bool.and_eq_true] at q
  exact ⟨q.1, Nat.zero_le _, of_decide_eq_true q.2⟩
def spLaw (K : PySem.W.Frag) : Sp := fun vs H Q _ => ∃ (a : Addr) (ns : List Int), vs = [.ref a] ∧ SqL K H a (ns.map V.int) ∧ ns.length ≤ 63 ∧ ∀ H', Q (.bl true) H'
section
variable {P : Program} {w : World} {K : PySem.W.Frag} {mg : Str → Option Value} {base : Heap}
theorem D_law (T : Txt K mg) : DfS P w K mg base 6 "law" s_law ["script"] (spLaw K) := by
  have D_l_deck := D_deck (P := P) (w := w) (base := base) T
  have D_l_draw := D_draw (P := P) (w := w) (base := base) T
  have D_l_pick := D_pick (P := P) (w := w) (base := base) T
  have D_l_heap := D_l_heap (P := P) (w := w) (base := base) T
  have D_l_is_lost_right := D_l_is_lost_right (P := P) (w := w) (base := base) T
  have D_l_is_joined_right := D_l_is_joined_right (P := P) (w := w) (base := base) T
  obtain ⟨f, fd, S⟩ := T.d_law
  refine DfS.mk' (k := 5) S sc_law (fun vs H Q E h => ?_) (fun cdv A outer s H vs Q E hgd hr h => ?_)
  · obtain ⟨a, ns, rfl, _⟩ := h
    rfl
  · obtain ⟨a, ns, rfl, hS, hz, k⟩ := h
    refine ⟨_, (pss_cons (ps_set (i := 1) sc_law.nd rfl (.inr rfl) (pe_d D_l_deck hgd hr (pa_cons (pv 0) pa_nil)))
      (pss_cons (ps_for PassesOwn.never rfl (pi_range1 rfl T.b_range (pa_cons pe_int pa_nil)) (pg_name (i := 2) sc_law.nd rfl (.inl rfl))
      (pss_cons (ps_set (i := 3) sc_law.nd rfl (.inl rfl) (pe_slice sl_list (pe_lst (pa_cons pe_str (pa_cons pe_str (pa_cons pe_str (pa_cons pe_str (pa_cons pe_str pa_nil)))))) po_none (po_some (pe_d D_l_draw hgd hr (pa_cons (pv 1) (pa_cons pe_int pa_nil))))))
      (pss_cons (ps_set (i := 4) sc_law.nd rfl (.inl rfl) (pe_d D_l_heap hgd hr (pa_cons (pv 1) pa_nil)))
      (pss_cons (ps_set (i := 5) sc_law.nd rfl (.inl rfl) (pe_callTy call_tuple_ofP (by rfl) T.b_tuple (by decide +kernel) (pa_cons (pe_lc (own := [("name", 6)]) (g := gName 6) (tt := tYes) rfl sc_law.nd (pi_list (pv 3)) (blkOk_by (own := [("name", 6)]) (N := ["script", "deck", "turn", "names", "heap", "store", "name"]) (sc := defScope s_law) (by decide +kernel)) (fun _ _ _ _ _ => pg_name (i := 6) sc_law.nd rfl (.inl rfl)) (fun _ _ _ _ _ => pts_nil) (fun _ _ _ _ _ => (pe_tup (pa_cons (pv 6) (pa_cons (pe_d D_l_pick hgd hr (pa_cons (pv 1) (pa_cons (pe_lst (pa_cons pe_int (pa_cons pe_int (pa_cons pe_int (pa_cons pe_int (pa_cons pe_int (pa_cons pe_int (pa_cons pe_int pa_nil)))))))) pa_nil))) pa_nil))))) pa_nil)))
      (pss_cons (ps_if (PW.pt (pw_or (pt_not (pt_val (pe_d D_l_is_lost_right hgd hr (pa_cons (pv 1) (pa_cons (pv 5) (pa_cons (pv 4) (pa_cons (pe_cmpR op_eq (pe_op op_mod (pv 2) pe_int) pe_int (nomark _)) pa_nil))))))) (pw_or1 (pt_not (pt_val (pe_d D_l_is_joined_right hgd hr (pa_cons (pv 1) pa_nil))))))) (pss_one (ps_ret pe_bl)) pss_nil)
      (pss_one (ps_if (pt_not (pt_val (pe_d D_l_is_joined_right hgd hr (pa_cons (pv 1) pa_nil)))) (pss_one (ps_ret pe_bl)) pss_nil)))))))
      (pss_one (ps_ret pe_bl)))), ?_⟩
    refine ⟨_, rfl, a, ns, rfl, hS, hz, fun p l H1 W1 => ?_⟩
    dsimp only [gName]
    refine ⟨12, rfl, by decide, by decide, for_range (lo := 0) (n := 12) (fun i σ H2 => ∃ o2 o3 o4 o5 o6, σ = [some (.ref a), some (.ref p), o2, o3, o4, o5, o6] ∧ ∃ G2, Wd p l G2 H2)
      ⟨_, _, _, _, _, rfl, H, W1⟩ ?_ ?_⟩
    · rintro i σ H2 hi ⟨o2, o3, o4, o5, o6, rfl, G2, W2⟩
      dsimp only [gName, List.set]
      refine ⟨by show 5 ≤ sizeLine; decide, fun L hL => ?_⟩
      have e3 := W2.tmp (o := .lst (nm5.map V.str)) hL
      refine ⟨_, rfl, p, l, G2, 6, rfl, by decide, by decide, e3.w, fun d H4 d0 d1 e4 => ?_⟩
      have gL : H4 L = some (.lst (nm5.map V.str)) := e4.keep _ _ (W2.np hL) (W2.nl hL) upd_same
      obtain ⟨ms, ec, sub⟩ := cut_subS nm5 none (some d)
      refine ⟨d, rfl, L, nm5.map V.str, rfl, SqL.of gL, fun N hN => ?_⟩
      rw [ec]
      have e5 := e4.w.put (o := .lst (ms.map V.str)) hN
      have gN : (upd G2 N (.lst (ms.map V.str))) N = some (.lst (ms.map V.str)) := upd_same
      have W5 := e5.w
      clear e5 e4 e3 gL hL hN
      generalize upd G2 N (.lst (ms.map V.str)) = G5 at gN W5
      generalize upd H4 N (.lst (ms.map V.str)) = H5 at W5 ⊢
      have lms : ms.length ≤ 5 := sub.length_le
      dsimp only [gName, List.set]
      refine ⟨_, rfl, p, l, G5, rfl, W5, fun ha hp G6 H6 W6 s56 pH asc lh hb => ?_⟩
      have gN6 := s56 _ _ gN
      dsimp only [gName, List.set]
      refine TD.asgTupP (K := K) (p := p) (l := l) (G := G6)
        (φ := fun d => ∃ ds, d = .list ds ∧ ds.length = (ms.map V.str).length ∧ ∀ m e, ds[m]? = some e → PairN 11 (ms.map fun n => (.inr n : Key)) m e) ?h1 W6 (fun u d G7 H7 e7 da7 f7 => ?_)
      case h1 =>
        refine td_lcl (φ := PairN 11 (ms.map fun n => (.inr n : Key))) rfl (SqL.of gN6) (by rw [List.length_map]; exact Nat.lt_of_le_of_lt lms (by decide)) fun m x hx => ?_
        rw [List.getElem?_map] at hx
        obtain ⟨z, hz, rfl⟩ := Option.map_eq_some_iff.mp hx
        exact td_pairN (key := .inr z) rfl rfl (by rw [List.getElem?_map, hz]; rfl) (td_lstF (tds_consF td_small (tds_consF td_small (tds_consF td_small (tds_consF td_small (tds_consF td_small (tds_consF td_small (tds_consF td_small tds_nilF))))))))
      obtain ⟨ds, rfl, ld, fd2⟩ := f7
      cases da7 with
      | @lst L2 xs _ gL aL =>
        obtain ⟨ts, kvs, rfl, pr, ek, iv⟩ := pairs_of_da (B := 11) (ks := ms.map fun n => (.inr n : Key)) aL (by rw [ld, List.length_map, List.length_map]) fd2
        obtain ⟨st, rfl, en, sb⟩ := st_of ek iv
        refine ⟨L2, _, rfl, SqL.of (e7.w.same _ _ gL), fun sa o po hsa => ?_⟩
        have e8 := e7.w.put (o := .frz o (.tup (ts.map V.ref))) hsa
        have pS : PrT K (upd G7 sa (.frz o (.tup (ts.map V.ref)))) sa (stK st) := ⟨ts, ⟨o, po, upd_same⟩, paired_mono (fun _ _ _ q => sameT e8.sub q) pr⟩
        have W8 := e8.w
        have pH8 := (pH.same e7.sub).same e8.sub
        clear e8 e7 gL aL pr fd2 hsa ek iv ld W6 pH gN6 s56 W5 gN
        generalize upd G7 sa (.frz o (.tup (ts.map V.ref))) = G8 at pS W8 pH8
        generalize upd H7 sa (.frz o (.tup (ts.map V.ref))) = H8 at W8 ⊢
        have lst : st.length ≤ 5 := by
          have := congrArg List.length en
          rw [List.length_map] at this
          omega
        have sn : ∀ c ∈ st, c.1 ∈ nm5 := fun c m => by
          have := List.mem_map_of_mem (f := fun c : Str × Int => c.1) m
          rw [en] at this
          exact sub.mem this
        dsimp only [gName, List.set]
        refine ⟨_, rfl, _, rfl, _, rfl, _, rfl, _, _, rfl, rfl, ?_, rfl, p, l, G8, sa, ha, _, st, hp, rfl, W8, pS, pH8, ?_, lst, ?_, fun c m => nm5_ok _ (sn c m), fun c m => ⟨(sb c m).1, by have := (sb c m).2; omega⟩, asc, lh, hb, fun G9 H9 W9 s9 => ?_⟩
        · show (0 : Int) < 4
          decide
        · rw [en]
          have h5 : nm5.Nodup := by decide +kernel
          exact h5.sublist sub
        · rw [en]
          intro m
          have h5 : ¬ ("w" : Str) ∈ nm5 := by decide +kernel
          exact h5 (sub.mem m)
        · refine ⟨true, rfl, if_no rfl ?_⟩
          refine ⟨_, rfl, p, l, G9, rfl, W9, fun G10 H10 W10 s10 => ⟨true, rfl, if_no rfl ?_⟩⟩
          dsimp only
          refine ⟨_, rfl, p, l, G10, rfl, W10, fun G11 H11 W11 s11 => ⟨true, rfl, if_no rfl ?_⟩⟩
          exact ⟨_, _, _, _, _, rfl, G11, W11⟩
    · rintro σ H2 ⟨o2, o3, o4, o5, o6, rfl, G2, W2⟩
      exact k _
end
end L2.Hx

/-! The end: the row from the promise of its def. -/
namespace L2.Hx
open PySem PySem.Spec PyProof.Rows
section
variable {P : Program} {w : World} {K : PySem.W.Frag} {mg mb : Str → Option Value} {k : Nat} {f a : Addr} {fd : FuncData} {x : Str} {sp : Sp} {t0 : Shared} {us0 : List Value} {ns : List Int}
/-- what stands ahead of the call of the def -/
structure Ahead (K : PySem.W.Frag) (mg mb : Str → Option Value) (t0 : Shared) (a : Addr) (us0 : List Value) (ns : List Int) : Prop where
  kin : K.In t0.heap
  nsG : t0.heap.Ns mainGlobals mg
  nsB : t0.heap.Ns builtinsNs mb
  bb : ∀ y : Str, y ≠ "__name__" → mb y = bootBuiltins y
  lim : t0.heap.NoLimit
  gens : t0.gens = #[]
  obj : t0.heap.get? a = some { cls := .type "list", data := .seq us0.toArray }
  are : IntsAre us0 ns
  len : ns.length ≤ sizeLine
/-- what stands behind it -/
abbrev Done (t0 : Shared) : Result → Shared → Prop := fun r z => r = .ok (.ret (.bool true)) ∧ OldK t0.heap z.heap ∧ z.os = t0.os ∧ AllBare z.gens
/-- from a heap in which nothing but the script may be tracked -/
theorem Ahead.from_ {H : Hp} (Z : Ahead K mg mb t0 a us0 ns) (room : Room k callerA) (F : ∀ base : Heap, K.In base → base.Ns mainGlobals mg → FnG P w K mg base CX0 k f fd [x] sp) (bind : ∀ (s : Shared) (u : Value), BindsTo s fd ⟨[u], []⟩ [(x, u)])
    (hO : Only H) (prom : sp [.ref a] H (fun v _ => v = .bl true) fun _ _ _ => False) (ok0 : HOk P w H t0.heap) (alone : ∀ b, H b ≠ none → b = a) (notK : H a ≠ none → K.lookup a = none) :
    codeAny (model P w) callerA (.call (.ref f) ⟨[.ref a], []⟩) (Done t0) t0 := by
  have free : ∀ {b : Addr} {o : Obj} {es : Array DictEntry} {n : Nat}, t0.heap.get? b = some o → o.data = .dict es n → H b = none := fun {b o es n} e d => by
    rcases hO b with q | ⟨o2, xs, q⟩
    · exact q
    · have ea := alone b (by rw [q]; exact Option.some_ne_none _)
      rw [ea, Z.obj] at e
      cases e
      cases d
  have ns1 : ∀ {b : Addr} {m : Str → Option Value}, t0.heap.Ns b m → (hidT t0.heap H).Ns b m := fun {b m} z => by
    obtain ⟨o, es, n, e, d, r⟩ := z
    exact ⟨o, es, n, hidT_get e (free e d), d, r⟩
  have kin1 : K.In (hidT t0.heap H) := fun b o e => by
    refine hidT_get (Z.kin b o e) ?_
    rcases hO b with q | ⟨o2, xs, q⟩
    · exact q
    · have nn : H b ≠ none := by
        rw [q]
        exact Option.some_ne_none _
      have ea := alone b nn
      rw [ea] at nn e
      rw [notK nn] at e
      cases e
  have lim1 : (hidT t0.heap H).NoLimit := by
    obtain ⟨m, z1, z2⟩ := Z.lim
    exact ⟨m, ns1 z1, z2⟩
  have env : Env0 P w K mg (hidT t0.heap H) callerA [] t0 H :=
    ⟨rfl, ⟨kin1, ns1 Z.nsG, ⟨mb, ns1 Z.nsB, Z.bb⟩, lim1⟩, fun b o e => of_hidT e, Nat.le_of_eq (hidT_size _ _), trivial, fun b z => absurd (show b ∈ ([] : List Addr) from z) List.not_mem_nil, ok0, .of_eq Z.gens⟩
  refine codeAny_mono ((F _ kin1 (ns1 Z.nsG)).go callerA [] t0 H ⟨[.ref a], []⟩ [.ref a] [.ref a] _ _ rfl room env (bind t0 (.ref a)) (.cons rfl .nil) prom) fun r z h => ?_
  match r, h with
  | .ok (.ret u), h =>
    obtain ⟨v, H1, e1, e2, e3, e4, e5, e6⟩ := h
    have ev : v = .bl true := e6
    rw [ev] at e5
    have eu : u = Value.bool true := e5
    rw [eu]
    refine ⟨rfl, OldK.of_keep fun b o e => ?_, e1, e2⟩
    rcases hO b with q | ⟨o2, xs, q⟩
    · exact e3.keep b o e q (fun m => absurd (show b ∈ ([] : List Addr) from m) List.not_mem_nil) (by simp)
    · have q1 := e3.frzs b o2 _ q
      have g0 := (ok0 b _ q).1
      have g1 := (e4 b _ q1).1
      rw [e] at g0
      cases g0
      exact g1
theorem Ahead.call (Z : Ahead K mg mb t0 a us0 ns) (room : Room k callerA) (F : ∀ base : Heap, K.In base → base.Ns mainGlobals mg → FnG P w K mg base CX0 k f fd [x] sp) (bind : ∀ (s : Shared) (u : Value), BindsTo s fd ⟨[u], []⟩ [(x, u)])
    (prom : ∀ H : Hp, SqL K H a (ns.map V.int) → sp [.ref a] H (fun v _ => v = .bl true) fun _ _ _ => False) : codeAny (model P w) callerA (.call (.ref f) ⟨[.ref a], []⟩) (Done t0) t0 := by
  have vals := vals_ints Z.are
  have lens := Z.are.length
  cases own : K.lookup a with
  | some o =>
    have eo := Z.kin a o own
    rw [Z.obj] at eo
    cases eo
    refine Z.from_ (H := fun _ => none) room F bind (fun _ => .inl rfl) (prom _ (.inr ⟨_, us0.toArray, _, own, rfl, rfl, rfl, ?_, vals⟩)) (fun b u q => nomatch q) (fun b q => absurd rfl q) (fun q => absurd rfl q)
    rw [List.size_toArray, lens]
    exact Z.len
  | none =>
    refine Z.from_ (H := fun b => if b = a then some (.frz { cls := .type "list", data := .seq us0.toArray } (.lst (ns.map V.int))) else none) room F bind (fun b => ?_) (prom _ (.inl (.inr ⟨_, if_pos rfl⟩))) (fun b u q => ?_) (fun b q => ?_) (fun _ => own)
    · by_cases e : b = a
      · exact .inr ⟨_, _, if_pos e⟩
      · exact .inl (if_neg e)
    · by_cases e : b = a
      · have q1 := (if_pos e).symm.trans q
        cases q1
        rw [e]
        exact ⟨Z.obj, by rw [List.length_map]; exact Z.len, us0, _, vals, Z.obj⟩
      · have q1 := (if_neg e).symm.trans q
        cases q1
    · by_cases e : b = a
      · exact e
      · exact absurd (if_neg e) q
end
/-- the row's walk -/
theorem walkG {l : PySem.W.OpenLaw} {n k : Nat} {q : Program} {loose : List Str} {XP : (Str → Option Value) → Heap → Prop} {YP : World → Heap → Prop} {d : DefRec} {K : Params → PySem.W.Frag} {sp : PySem.W.Frag → Sp} {x : Str}
    (hn : l.most = some n) (hz : n ≤ sizeLine) (nodef : d.params.defaults = []) (room : Room k callerA) (hY : ∀ (w : World) (h : Heap), YP w h → (K w.params).In h)
    (F : ∀ (w : World) (mg : Str → Option Value) (f : Addr) (h : Heap), (K w.params).In h → h.Ns mainGlobals mg → mg d.name = some (.ref f) →
      ∃ fd : FuncData, (∀ (s : Shared) (u : Value), BindsTo s fd ⟨[u], []⟩ [(x, u)]) ∧ ∀ base : Heap, FnG l.prog w (K w.params) mg base CX0 k f fd [x] (sp (K w.params)))
    (prom : ∀ (K : PySem.W.Frag) (H : Hp) (a : Addr) (ns : List Int), ns.length ≤ n → SqL K H a (ns.map V.int) → sp K [.ref a] H (fun v _ => v = .bl true) fun _ _ _ => False) :
    PySem.W.WalkO q loose XP YP l.row.toRowW d [] (fun f vs => PySem.call f vs) := by
  refine Att.attach_call hn nodef fun w s0 t0 mg mb f o pm cd doc a us0 ns G Y _ _ _ here obj are len gens => ?_
  have kin := hY w _ Y
  obtain ⟨fd, b, FF⟩ := F w mg f _ kin G.T.g here
  have Z : Ahead (K w.params) mg mb t0 a us0 ns := ⟨kin, G.T.g, G.T.b, G.T.builtins, G.T.nolimit, gens, obj, are, Nat.le_trans len hz⟩
  exact Z.call room (fun base _ _ => FF base) b fun H hS => prom _ H a ns len hS
/-- a def of the top, where it stands -/
theorem src_of {K : PySem.W.Frag} {mg : Str → Option Value} {h : Heap} {x : Str} {st : Stmt} {ps : List Str} {f : Addr} {oc kV doc pm cdv ct : Value} {od an : Option Addr} {osl : Array (Option Value)} (X : K.In h) (G : h.Ns mainGlobals mg)
    (e1 : PySem.W.nsIn K mainGlobals x = some (some (.ref f))) (e2 : K.lookup f = some ⟨oc, od, .func (PySem.W.fnOf x x (defArgs st) (defBody st) (defScope st) .none kV doc pm an cdv ct), osl⟩) (e3 : PySem.W.codeIn K cdv x = true) (e4 : PySem.W.keepIn K (.ref f) = true)
    (hb : ∀ (kV doc pm : Value) (an : Option Addr) (cdv ct : Value) (us : List Value), us.length = ps.length → bindArgs (PySem.W.fnOf x x (defArgs st) (defBody st) (defScope st) .none kV doc pm an cdv ct) ⟨us, []⟩ = pure (ps.zip us)) : ∃ f fd, Src K mg x st ps f fd :=
  ⟨f, _, fun_mk e2 e3 e4, PySem.W.mg_of X G e1, (fun_mk e2 e3 e4).binds hb⟩
/-- a tuple of texts of the top -/
theorem tup_of {K : PySem.W.Frag} {mg : Str → Option Value} {h : Heap} {x : Str} {a : Addr} {ws : List Str} {o : Obj} {its : Array Value} {n : Nat} (X : K.In h) (G : h.Ns mainGlobals mg) (e1 : PySem.W.nsIn K mainGlobals x = some (some (.ref a))) (e2 : K.lookup a = some o)
    (e3 : o.cls = .type "tuple" ∧ o.data = .seq its n ∧ its.size ≤ sizeLine ∧ Vals (ws.map V.str) its.toList) : ∃ a, mg x = some (.ref a) ∧ ∀ H, SqT K H a (ws.map V.str) :=
  ⟨a, PySem.W.mg_of X G e1, fun H => .inr ⟨o, its, n, e2, e3.1, e3.2.1, e3.2.2.1, e3.2.2.2⟩⟩
theorem da_walk {l : PySem.W.OpenLaw} {q : Program} {loose : List Str} {XP : (Str → Option Value) → Heap → Prop} {YP : World → Heap → Prop} {d : DefRec} {K : Params → PySem.W.Frag} (hn : l.most = some 63) (nodef : d.params.defaults = []) (nm : d.name = "law")
    (hY : ∀ (w : World) (h : Heap), YP w h → (K w.params).In h) (F : ∀ (w : World) (mg : Str → Option Value) (h : Heap), (K w.params).In h → h.Ns mainGlobals mg → Txt (K w.params) mg) : PySem.W.WalkO q loose XP YP l.row.toRowW d [] (fun f vs => PySem.call f vs) :=
  walkG (n := 63) (k := 6) (x := "script") (sp := spLaw) hn (by decide) nodef ⟨rfl, by decide, by decide⟩ hY (fun w mg f h kin G here => by
    have T := F w mg h kin G
    obtain ⟨f0, fd0, S0⟩ := T.d_law
    have e := S0.at_.symm.trans (nm ▸ here)
    cases e
    refine ⟨fd0, fun s u => ?_, fun base => ?_⟩
    · obtain ⟨oc, od, kV, doc, pm, an, cdv, ct, osl, rfl, _⟩ := S0.fn.ex
      exact .of_eq rfl
    · obtain ⟨f1, fd1, R, S1⟩ := D_law (P := l.prog) (w := w) (base := base) T
      have e1 := S1.at_.symm.trans S0.at_
      cases e1
      have e2 : fd1 = fd0 := by
        obtain ⟨oc, od, kV, doc, pm, an, cdv, ct, osl, rfl, lk, _⟩ := S0.fn.ex
        obtain ⟨oc', od', kV', doc', pm', an', cdv', ct', osl', rfl, lk', _⟩ := S1.fn.ex
        rw [lk] at lk'
        cases lk'
        rfl
      rw [← e2]
      exact R) fun K H a ns hl hS => ⟨a, ns, rfl, hS, hl, fun _ => rfl⟩
end L2.Hx

open PySem PySem.W PyProof.Rows in
set_option maxRecDepth 100000 in
set_option maxHeartbeats 0 in
theorem PySem.Challenge.cw_heldapart_k08_whole_lost_cells_and_claus_holds : PySem.Challenge.rw_heldapart_k08_whole_lost_cells_and_claus.Holds := by
  w_on; o_law; k_head; (case hw => w_witness2)
  k_fill
  refine L2.Hx.da_walk (l := PySem.Challenge.rw_heldapart_k08_whole_lost_cells_and_claus) rfl rfl rfl (fun w h Y => PySem.W.kIn_of Y) ?F
  case F =>
    intro w mg h KX G
    have b_abs : mg "abs" = none := by
      refine PySem.W.mg_none_of KX G ?_
      k_is
    have b_dict : mg "dict" = none := by
      refine PySem.W.mg_none_of KX G ?_
      k_is
    have b_int : mg "int" = none := by
      refine PySem.W.mg_none_of KX G ?_
      k_is
    have b_isinstance : mg "isinstance" = none := by
      refine PySem.W.mg_none_of KX G ?_
      k_is
    have b_len : mg "len" = none := by
      refine PySem.W.mg_none_of KX G ?_
      k_is
    have b_list : mg "list" = none := by
      refine PySem.W.mg_none_of KX G ?_
      k_is
    have b_max : mg "max" = none := by
      refine PySem.W.mg_none_of KX G ?_
      k_is
    have b_range : mg "range" = none := by
      refine PySem.W.mg_none_of KX G ?_
      k_is
    have b_repr : mg "repr" = none := by
      refine PySem.W.mg_none_of KX G ?_
      k_is
    have b_sorted : mg "sorted" = none := by
      refine PySem.W.mg_none_of KX G ?_
      k_is
    have b_str : mg "str" = none := by
      refine PySem.W.mg_none_of KX G ?_
      k_is
    have b_sum : mg "sum" = none := by
      refine PySem.W.mg_none_of KX G ?_
      k_is
    have b_tuple : mg "tuple" = none := by
      refine PySem.W.mg_none_of KX G ?_
      k_is
    have b_zip : mg "zip" = none := by
      refine PySem.W.mg_none_of KX G ?_
      k_is
    have d_holds : ∃ f fd, L2.Hx.Src (L2.KOf KX) mg "holds" L2.Hx.s_holds ["saying", "store", "heap"] f fd := by
      dsimp only [L2.KOf]
      refine' L2.Hx.src_of KX G ?e1_14 ?e2_14 ?e3_14 ?e4_14 (fun _ _ _ _ _ _ us hl => match us, hl with | [_, _, _], _ => rfl)
      (case e1_14 => k_is)
      (case e2_14 => k_is)
      (case e3_14 => k_is)
      (case e4_14 => k_is)
    have d_part_of : ∃ f fd, L2.Hx.Src (L2.KOf KX) mg "part_of" L2.Hx.s_part_of ["clause", "store", "heap"] f fd := by
      dsimp only [L2.KOf]
      refine' L2.Hx.src_of KX G ?e1_15 ?e2_15 ?e3_15 ?e4_15 (fun _ _ _ _ _ _ us hl => match us, hl with | [_, _, _], _ => rfl)
      (case e1_15 => k_is)
      (case e2_15 => k_is)
      (case e3_15 => k_is)
      (case e4_15 => k_is)
    have d_values_of : ∃ f fd, L2.Hx.Src (L2.KOf KX) mg "values_of" L2.Hx.s_values_of ["store"] f fd := by
      dsimp only [L2.KOf]
      refine' L2.Hx.src_of KX G ?e1_16 ?e2_16 ?e3_16 ?e4_16 (fun _ _ _ _ _ _ us hl => match us, hl with | [_], _ => rfl)
      (case e1_16 => k_is)
      (case e2_16 => k_is)
      (case e3_16 => k_is)
      (case e4_16 => k_is)
    have d_looks_hold : ∃ f fd, L2.Hx.Src (L2.KOf KX) mg "looks_hold" L2.Hx.s_looks_hold ["looks", "values"] f fd := by
      dsimp only [L2.KOf]
      refine' L2.Hx.src_of KX G ?e1_17 ?e2_17 ?e3_17 ?e4_17 (fun _ _ _ _ _ _ us hl => match us, hl with | [_, _], _ => rfl)
      (case e1_17 => k_is)
      (case e2_17 => k_is)
      (case e3_17 => k_is)
      (case e4_17 => k_is)
    have d_takes_all : ∃ f fd, L2.Hx.Src (L2.KOf KX) mg "takes_all" L2.Hx.s_takes_all ["saying", "values", "leads", "singles"] f fd := by
      dsimp only [L2.KOf]
      refine' L2.Hx.src_of KX G ?e1_18 ?e2_18 ?e3_18 ?e4_18 (fun _ _ _ _ _ _ us hl => match us, hl with | [_, _, _, _], _ => rfl)
      (case e1_18 => k_is)
      (case e2_18 => k_is)
      (case e3_18 => k_is)
      (case e4_18 => k_is)
    have d_taken : ∃ f fd, L2.Hx.Src (L2.KOf KX) mg "taken" L2.Hx.s_taken ["clause", "values", "leads", "singles"] f fd := by
      dsimp only [L2.KOf]
      refine' L2.Hx.src_of KX G ?e1_19 ?e2_19 ?e3_19 ?e4_19 (fun _ _ _ _ _ _ us hl => match us, hl with | [_, _, _, _], _ => rfl)
      (case e1_19 => k_is)
      (case e2_19 => k_is)
      (case e3_19 => k_is)
      (case e4_19 => k_is)
    have d_takes_list : ∃ f fd, L2.Hx.Src (L2.KOf KX) mg "takes_list" L2.Hx.s_takes_list ["at", "end", "leads", "took"] f fd := by
      dsimp only [L2.KOf]
      refine' L2.Hx.src_of KX G ?e1_20 ?e2_20 ?e3_20 ?e4_20 (fun _ _ _ _ _ _ us hl => match us, hl with | [_, _, _, _], _ => rfl)
      (case e1_20 => k_is)
      (case e2_20 => k_is)
      (case e3_20 => k_is)
      (case e4_20 => k_is)
    have d_lost : ∃ f fd, L2.Hx.Src (L2.KOf KX) mg "lost" L2.Hx.s_lost ["store", "heap"] f fd := by
      dsimp only [L2.KOf]
      refine' L2.Hx.src_of KX G ?e1_21 ?e2_21 ?e3_21 ?e4_21 (fun _ _ _ _ _ _ us hl => match us, hl with | [_, _], _ => rfl)
      (case e1_21 => k_is)
      (case e2_21 => k_is)
      (case e3_21 => k_is)
      (case e4_21 => k_is)
    have d_l_deck : ∃ f fd, L2.Hx.Src (L2.KOf KX) mg "_law_deck" L2.Hx.s_l_deck ["script"] f fd := by
      dsimp only [L2.KOf]
      refine' L2.Hx.src_of KX G ?e1_22 ?e2_22 ?e3_22 ?e4_22 (fun _ _ _ _ _ _ us hl => match us, hl with | [_], _ => rfl)
      (case e1_22 => k_is)
      (case e2_22 => k_is)
      (case e3_22 => k_is)
      (case e4_22 => k_is)
    have d_l_draw : ∃ f fd, L2.Hx.Src (L2.KOf KX) mg "_law_draw" L2.Hx.s_l_draw ["deck", "many"] f fd := by
      dsimp only [L2.KOf]
      refine' L2.Hx.src_of KX G ?e1_23 ?e2_23 ?e3_23 ?e4_23 (fun _ _ _ _ _ _ us hl => match us, hl with | [_, _], _ => rfl)
      (case e1_23 => k_is)
      (case e2_23 => k_is)
      (case e3_23 => k_is)
      (case e4_23 => k_is)
    have d_l_pick : ∃ f fd, L2.Hx.Src (L2.KOf KX) mg "_law_pick" L2.Hx.s_l_pick ["deck", "items"] f fd := by
      dsimp only [L2.KOf]
      refine' L2.Hx.src_of KX G ?e1_24 ?e2_24 ?e3_24 ?e4_24 (fun _ _ _ _ _ _ us hl => match us, hl with | [_, _], _ => rfl)
      (case e1_24 => k_is)
      (case e2_24 => k_is)
      (case e3_24 => k_is)
      (case e4_24 => k_is)
    have d_l_shuffled : ∃ f fd, L2.Hx.Src (L2.KOf KX) mg "_law_shuffled" L2.Hx.s_l_shuffled ["deck", "items"] f fd := by
      dsimp only [L2.KOf]
      refine' L2.Hx.src_of KX G ?e1_25 ?e2_25 ?e3_25 ?e4_25 (fun _ _ _ _ _ _ us hl => match us, hl with | [_, _], _ => rfl)
      (case e1_25 => k_is)
      (case e2_25 => k_is)
      (case e3_25 => k_is)
      (case e4_25 => k_is)
    have d_l_look : ∃ f fd, L2.Hx.Src (L2.KOf KX) mg "_law_look" L2.Hx.s_l_look ["deck", "terms"] f fd := by
      dsimp only [L2.KOf]
      refine' L2.Hx.src_of KX G ?e1_26 ?e2_26 ?e3_26 ?e4_26 (fun _ _ _ _ _ _ us hl => match us, hl with | [_, _], _ => rfl)
      (case e1_26 => k_is)
      (case e2_26 => k_is)
      (case e3_26 => k_is)
      (case e4_26 => k_is)
    have d_l_part : ∃ f fd, L2.Hx.Src (L2.KOf KX) mg "_law_part" L2.Hx.s_l_part ["deck", "terms"] f fd := by
      dsimp only [L2.KOf]
      refine' L2.Hx.src_of KX G ?e1_27 ?e2_27 ?e3_27 ?e4_27 (fun _ _ _ _ _ _ us hl => match us, hl with | [_, _], _ => rfl)
      (case e1_27 => k_is)
      (case e2_27 => k_is)
      (case e3_27 => k_is)
      (case e4_27 => k_is)
    have d_l_clause : ∃ f fd, L2.Hx.Src (L2.KOf KX) mg "_law_clause" L2.Hx.s_l_clause ["deck", "terms", "looks", "parts"] f fd := by
      dsimp only [L2.KOf]
      refine' L2.Hx.src_of KX G ?e1_28 ?e2_28 ?e3_28 ?e4_28 (fun _ _ _ _ _ _ us hl => match us, hl with | [_, _, _, _], _ => rfl)
      (case e1_28 => k_is)
      (case e2_28 => k_is)
      (case e3_28 => k_is)
      (case e4_28 => k_is)
    have d_l_worth : ∃ f fd, L2.Hx.Src (L2.KOf KX) mg "_law_worth" L2.Hx.s_l_worth ["store", "term"] f fd := by
      dsimp only [L2.KOf]
      refine' L2.Hx.src_of KX G ?e1_29 ?e2_29 ?e3_29 ?e4_29 (fun _ _ _ _ _ _ us hl => match us, hl with | [_, _], _ => rfl)
      (case e1_29 => k_is)
      (case e2_29 => k_is)
      (case e3_29 => k_is)
      (case e4_29 => k_is)
    have d_l_looks_true : ∃ f fd, L2.Hx.Src (L2.KOf KX) mg "_law_looks_true" L2.Hx.s_l_looks_true ["clause", "store"] f fd := by
      dsimp only [L2.KOf]
      refine' L2.Hx.src_of KX G ?e1_30 ?e2_30 ?e3_30 ?e4_30 (fun _ _ _ _ _ _ us hl => match us, hl with | [_, _], _ => rfl)
      (case e1_30 => k_is)
      (case e2_30 => k_is)
      (case e3_30 => k_is)
      (case e4_30 => k_is)
    have d_l_road : ∃ f fd, L2.Hx.Src (L2.KOf KX) mg "_law_road" L2.Hx.s_l_road ["part", "store", "heap"] f fd := by
      dsimp only [L2.KOf]
      refine' L2.Hx.src_of KX G ?e1_31 ?e2_31 ?e3_31 ?e4_31 (fun _ _ _ _ _ _ us hl => match us, hl with | [_, _, _], _ => rfl)
      (case e1_31 => k_is)
      (case e2_31 => k_is)
      (case e3_31 => k_is)
      (case e4_31 => k_is)
    have d_l_roads : ∃ f fd, L2.Hx.Src (L2.KOf KX) mg "_law_roads" L2.Hx.s_l_roads ["clause", "store", "heap"] f fd := by
      dsimp only [L2.KOf]
      refine' L2.Hx.src_of KX G ?e1_32 ?e2_32 ?e3_32 ?e4_32 (fun _ _ _ _ _ _ us hl => match us, hl with | [_, _, _], _ => rfl)
      (case e1_32 => k_is)
      (case e2_32 => k_is)
      (case e3_32 => k_is)
      (case e4_32 => k_is)
    have d_l_laid_part : ∃ f fd, L2.Hx.Src (L2.KOf KX) mg "_law_laid_part" L2.Hx.s_l_laid_part ["deck", "part", "store", "cells"] f fd := by
      dsimp only [L2.KOf]
      refine' L2.Hx.src_of KX G ?e1_33 ?e2_33 ?e3_33 ?e4_33 (fun _ _ _ _ _ _ us hl => match us, hl with | [_, _, _, _], _ => rfl)
      (case e1_33 => k_is)
      (case e2_33 => k_is)
      (case e3_33 => k_is)
      (case e4_33 => k_is)
    have d_l_world : ∃ f fd, L2.Hx.Src (L2.KOf KX) mg "_law_world" L2.Hx.s_l_world ["deck", "names", "clause"] f fd := by
      dsimp only [L2.KOf]
      refine' L2.Hx.src_of KX G ?e1_34 ?e2_34 ?e3_34 ?e4_34 (fun _ _ _ _ _ _ us hl => match us, hl with | [_, _, _], _ => rfl)
      (case e1_34 => k_is)
      (case e2_34 => k_is)
      (case e3_34 => k_is)
      (case e4_34 => k_is)
    have d_l_due : ∃ f fd, L2.Hx.Src (L2.KOf KX) mg "_law_due" L2.Hx.s_l_due ["store", "heap"] f fd := by
      dsimp only [L2.KOf]
      refine' L2.Hx.src_of KX G ?e1_35 ?e2_35 ?e3_35 ?e4_35 (fun _ _ _ _ _ _ us hl => match us, hl with | [_, _], _ => rfl)
      (case e1_35 => k_is)
      (case e2_35 => k_is)
      (case e3_35 => k_is)
      (case e4_35 => k_is)
    have d_l_heap : ∃ f fd, L2.Hx.Src (L2.KOf KX) mg "_law_heap" L2.Hx.s_l_heap ["deck"] f fd := by
      dsimp only [L2.KOf]
      refine' L2.Hx.src_of KX G ?e1_36 ?e2_36 ?e3_36 ?e4_36 (fun _ _ _ _ _ _ us hl => match us, hl with | [_], _ => rfl)
      (case e1_36 => k_is)
      (case e2_36 => k_is)
      (case e3_36 => k_is)
      (case e4_36 => k_is)
    have d_l_called : ∃ f fd, L2.Hx.Src (L2.KOf KX) mg "_law_called" L2.Hx.s_l_called ["deck", "store", "heap"] f fd := by
      dsimp only [L2.KOf]
      refine' L2.Hx.src_of KX G ?e1_37 ?e2_37 ?e3_37 ?e4_37 (fun _ _ _ _ _ _ us hl => match us, hl with | [_, _, _], _ => rfl)
      (case e1_37 => k_is)
      (case e2_37 => k_is)
      (case e3_37 => k_is)
      (case e4_37 => k_is)
    have d_l_is_lost_right : ∃ f fd, L2.Hx.Src (L2.KOf KX) mg "_law_is_lost_right" L2.Hx.s_l_is_lost_right ["deck", "store", "heap", "is_named"] f fd := by
      dsimp only [L2.KOf]
      refine' L2.Hx.src_of KX G ?e1_38 ?e2_38 ?e3_38 ?e4_38 (fun _ _ _ _ _ _ us hl => match us, hl with | [_, _, _, _], _ => rfl)
      (case e1_38 => k_is)
      (case e2_38 => k_is)
      (case e3_38 => k_is)
      (case e4_38 => k_is)
    have d_l_whole_part : ∃ f fd, L2.Hx.Src (L2.KOf KX) mg "_law_whole_part" L2.Hx.s_l_whole_part ["clause", "store", "heap"] f fd := by
      dsimp only [L2.KOf]
      refine' L2.Hx.src_of KX G ?e1_39 ?e2_39 ?e3_39 ?e4_39 (fun _ _ _ _ _ _ us hl => match us, hl with | [_, _, _], _ => rfl)
      (case e1_39 => k_is)
      (case e2_39 => k_is)
      (case e3_39 => k_is)
      (case e4_39 => k_is)
    have d_l_is_joined_right : ∃ f fd, L2.Hx.Src (L2.KOf KX) mg "_law_is_joined_right" L2.Hx.s_l_is_joined_right ["deck"] f fd := by
      dsimp only [L2.KOf]
      refine' L2.Hx.src_of KX G ?e1_40 ?e2_40 ?e3_40 ?e4_40 (fun _ _ _ _ _ _ us hl => match us, hl with | [_], _ => rfl)
      (case e1_40 => k_is)
      (case e2_40 => k_is)
      (case e3_40 => k_is)
      (case e4_40 => k_is)
    have d_law : ∃ f fd, L2.Hx.Src (L2.KOf KX) mg "law" L2.Hx.s_law ["script"] f fd := by
      dsimp only [L2.KOf]
      refine' L2.Hx.src_of KX G ?e1_41 ?e2_41 ?e3_41 ?e4_41 (fun _ _ _ _ _ _ us hl => match us, hl with | [_], _ => rfl)
      (case e1_41 => k_is)
      (case e2_41 => k_is)
      (case e3_41 => k_is)
      (case e4_41 => k_is)
    exact ⟨b_abs, b_dict, b_int, b_isinstance, b_len, b_list, b_max, b_range, b_repr, b_sorted, b_str, b_sum, b_tuple, b_zip, d_holds, d_part_of, d_values_of, d_looks_hold, d_takes_all, d_taken, d_takes_list, d_lost, d_l_deck, d_l_draw, d_l_pick, d_l_shuffled, d_l_look, d_l_part, d_l_clause, d_l_worth, d_l_looks_true, d_l_road, d_l_roads, d_l_laid_part, d_l_world, d_l_due, d_l_heap, d_l_called, d_l_is_lost_right, d_l_whole_part, d_l_is_joined_right, d_law⟩

